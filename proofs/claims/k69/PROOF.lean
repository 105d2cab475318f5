import PyProof.Rows.All
import Wide.All
import OpenK.AllK
import Wide.FinOn
import Lean
import PyProof.EqAt
import PyProof.EqKinds
import PyProof.TupleCall
import PySem.Challenge.RW_holebook_k69_a_growth_looked_at
set_option linter.all false
set_option Elab.async false
set_option maxRecDepth 100000
set_option maxHeartbeats 4000000
noncomputable section
namespace L2
open PySem PySem.Spec PyProof.Rows
abbrev Key:=Sum Int Str
def Ab5:Key->Value->Bool
 | .inl k,v=>Value.isInt k v
 | .inr x,v=>Value.isStrOf x v
def keyH (w:World):Key->Int
 | .inl k=>hashInt k
 | .inr x=>hashStr w x
theorem Bq:∀{k:Key}{v:Value},Ab5 k v=true->(∃ i t,k=Sum.inl i/\v=Value.int i t)\/(∃ x t,k=Sum.inr x/\v=Value.str x t)
 | .inl i,v,h=>by
   obtain⟨t,e⟩:=Value.isInt_shape (k:=i) (v:=v) h
   exact .inl ⟨i,t,rfl,e⟩
 | .inr x,v,h=>by
   obtain⟨t,e⟩:=Value.isStrOf_shape (x:=x) (v:=v) h
   exact .inr ⟨x,t,rfl,e⟩
theorem Ak3 (i:Int) (t:Tok):Ab5 (.inl i) (.int i t)=true:=by simp [Ab5,Value.isInt]
theorem Ak2 (x:Str) (t:Tok):Ab5 (.inr x) (.str x t)=true:=by simp [Ab5,Value.isStrOf]
theorem Ba6 (a b:Int):decide ((Sum.inl a:Key)=Sum.inl b)=(a==b):=by
 by_cases e:a=b
 . subst e;simp
 . have h:¬(Sum.inl a:Key)=Sum.inl b:=fun q=>e (Sum.inl.inj q)
   rw [decide_eq_false h]
   exact (beq_eq_false_iff_ne.mpr e).symm
theorem Ba3 (a b:Str):decide ((Sum.inr a:Key)=Sum.inr b)=decide (a=b):=by
 by_cases e:a=b
 . subst e;simp
 . have h:¬(Sum.inr a:Key)=Sum.inr b:=fun q=>e (Sum.inr.inj q)
   rw [decide_eq_false h,decide_eq_false e]
theorem Ba5 (a:Int) (b:Str):decide ((Sum.inl a:Key)=Sum.inr b)=false:=decide_eq_false (fun q=>nomatch q)
theorem Ba4 (a:Str) (b:Int):decide ((Sum.inr a:Key)=Sum.inl b)=false:=decide_eq_false (fun q=>nomatch q)
def mixKind (prog:Program) (w:World):PySem.KeyKind prog w Key where
 is:=Ab5
 hash:=keyH w
 inj:=fun v a b ha hb=>by
  rcases Bq ha with ⟨i,t,rfl,rfl⟩|⟨x,t,rfl,rfl⟩
  . rcases Bq hb with ⟨j,u,rfl,e⟩|⟨y,u,rfl,e⟩
    . injection e with e1 _;rw [e1]
    . exact nomatch e
  . rcases Bq hb with ⟨j,u,rfl,e⟩|⟨y,u,rfl,e⟩
    . exact nomatch e
    . injection e with e1 _;rw [e1]
 byValue:=fun k v h=>by
  rcases Bq h with ⟨i,t,rfl,rfl⟩|⟨x,t,rfl,rfl⟩<;>rfl
 pyHash:=fun hv h=>by
  rcases Bq hv with ⟨i,t,rfl,rfl⟩|⟨x,t,rfl,rfl⟩
  . exact wpAny_pyHash_int h
  . exact wpAny_pyHash_str h
 eqBool:=fun hu hv h=>by
  rcases Bq hu with ⟨i,t,rfl,rfl⟩|⟨x,t,rfl,rfl⟩
  . rcases Bq hv with ⟨j,u,rfl,rfl⟩|⟨y,u,rfl,rfl⟩
    . rw [Ba6] at h;exact wpAny_eqBool_int h
    . rw [Ba5] at h;exact SeqAt.EqAt.int_str i t y u _ _ _ _ h
  . rcases Bq hv with ⟨j,u,rfl,rfl⟩|⟨y,u,rfl,rfl⟩
    . rw [Ba4] at h;exact SeqAt.EqAt.str_int x t j u _ _ _ _ h
    . rw [Ba3] at h;exact wpAny_eqBool_str h
 «strs»:=fun k x t v h=>by
  rcases Bq h with ⟨i,u,rfl,e⟩|⟨y,u,rfl,e⟩
  . exact nomatch e
  . injection e with e1 _
    subst e1
    cases v<;>rfl
theorem Zw (prog:Program) (w:World) (i:Int) (t:Tok):(mixKind prog w).is (.inl i) (.int i t)=true:=Ak3 i t
theorem Zv (prog:Program) (w:World) (x:Str) (t:Tok):(mixKind prog w).is (.inr x) (.str x t)=true:=Ak2 x t
end L2
namespace L2
open PySem PySem.Spec PyProof.Rows
inductive V where
 | non | bl (b:Bool) | int (i:Int) | str (x:Str) | byt (b:Array UInt8) | flt (b:UInt64) | ref (a:Addr) | ty (n:String)
 deriving DecidableEq
def RelV:V->Value->Prop
 | .non,u=>u=Value.none
 | .bl b,u=>u=Value.bool b
 | .int i,u=>∃ t,u=Value.int i t
 | .str x,u=>∃ t,u=Value.str x t
 | .byt b,u=>∃ t,u=Value.bytes b t
 | .flt b,u=>∃ t,u=Value.float b t
 | .ref a,u=>u=Value.ref a
 | .ty n,u=>u=Value.type n
abbrev Vals:List V->List Value->Prop:=Paired RelV
theorem Vals.length {xs:List V}{us:List Value} (r:Vals xs us):xs.length=us.length:=Paired.length r
theorem Vals.get:∀{xs:List V}{us:List Value}{i:Nat}{x:V},Vals xs us->xs[i]?=some x->∃ u,us[i]?=some u/\RelV x u
 | _,_,_,_,.nil,e=>by simp at e
 | _,_,0,_,.cons r _,e=>by simp at e;subst e;exact ⟨_,rfl,r⟩
 | _,_,i+1,x,.cons _ t,e=>by
   obtain⟨u,h1,h2⟩:=Vals.get (i:=i) (x:=x) t (by simpa using e)
   exact ⟨u,by simpa using h1,h2⟩
theorem Vals.append:∀{xs ys:List V}{us ws:List Value},Vals xs us->Vals ys ws->Vals (xs++ys) (us++ws)
 | _,_,_,_,.nil,s=>s
 | _,_,_,_,.cons r t,s=>.cons r (Vals.append t s)
theorem Vals.take:∀{xs:List V}{us:List Value} (n:Nat),Vals xs us->Vals (xs.take n) (us.take n)
 | _,_,0,_=>.nil
 | _,_,_+1,.nil=>.nil
 | _,_,n+1,.cons r t=>.cons r (Vals.take n t)
theorem Vals.drop:∀{xs:List V}{us:List Value} (n:Nat),Vals xs us->Vals (xs.drop n) (us.drop n)
 | _,_,0,r=>r
 | _,_,_+1,.nil=>.nil
 | _,_,n+1,.cons _ t=>Vals.drop n t
def RelO:Option V->Option Value->Prop
 | some v,some u=>RelV v u
 | none,none=>True
 | _,_=>False
def KV {κ:Type}:List (κ × V)->List (κ × Value)->Prop:=Paired fun (p:κ × V) (q:κ × Value)=>p.1=q.1/\RelV p.2 q.2
def kV:Key->V
 | .inl i=>.int i
 | .inr x=>.str x
inductive HO where
 | lst (xs:List V)
 | tup (xs:List V)
 | dK (kvs:List (Key × V)) | dT (kvs:List (List Key × V))
 | set (S:Int->Bool) (n:Nat)
 | ins (C dx:Addr) (fs:List (Str × V))
 | own (x:Addr)
 | xd (fs:List (Str × V))
 | met (f x:Addr)
 | rng (lo hi:Int)
 | frz (o:Obj) (u:HO)
 | tbl (ps:Array Value)
 | ext (φ:Heap->Prop)
abbrev Hp:=Addr->Option HO
def upd (H:Hp) (a:Addr) (o:HO):Hp:=fun b=>if b=a then some o else H b
theorem Ac {H:Hp}{a:Addr}{o:HO}:upd H a o a=some o:=by unfold upd;rw [if_pos rfl]
theorem Ae {H:Hp}{a b:Addr}{o:HO} (h:b≠a):upd H a o b=H b:=by unfold upd;rw [if_neg h]
theorem Gs {H:Hp}{a b:Addr}{o u:HO} (h:H a=some o) (h':H b=some u) (d:o≠u):a≠b:=by
 intro e;subst e;rw [h] at h';exact d (Option.some.inj h')
theorem Al {H:Hp}{a b:Addr}{o:HO} (h:H a=some o) (h':H b=none):a≠b:=by
 intro e;subst e;rw [h] at h';cases h'
def Kp (h:Heap) (a:Addr) (items:Array Value):Prop:=∃ o,h.get? a=some o/\o.cls=.type "tuple"/\o.dict=none/\∃ n,o.data=.seq items n
theorem Kp.tup {h:Heap}{a:Addr}{items:Array Value} (x:Kp h a items):IsTup h a items:=let ⟨o,e,c,_,d⟩:=x;⟨o,e,c,d⟩
theorem Kp.lt {h:Heap}{a:Addr}{items:Array Value} (x:Kp h a items):a<h.objs.size:=x.tup.lt
theorem Kp.new (h:Heap) (items:Array Value):Kp (h.push { cls:=.type "tuple",data:=.seq items }) h.objs.size items:=⟨_,Heap.get?_push_size _ rfl,rfl,rfl,_,rfl⟩
section
variable (P:Program) (w:World)
def ObjOk (H:Hp) (h:Heap) (a:Addr):HO->Prop
 | .lst xs=>xs.length<=sizeLine/\∃ (its:List Value) (n:Nat),Vals xs its/\h.get? a=some { cls:=.type "list",data:=.seq its.toArray n }
 | .tup xs=>xs.length<=sizeLine/\∃ its:List Value,Vals xs its/\Kp h a its.toArray
 | .dK kvs=>kvs.length<=sizeLine/\(a==sysModules)=false/\∃ vs,KV kvs vs/\h.DictOf (mixKind P w) a vs
 | .dT kvs=>kvs.length<=sizeLine/\(a==sysModules)=false/\∃ xs:List (List Key × Addr × Value),
    Paired (fun (p:List Key × V) (q:List Key × Addr × Value)=>p.1=q.1/\H q.2.1=some (.tup (p.1.map kV))/\RelV p.2 q.2.2) kvs xs ∧
    ∃ o es ep,h.get? a=some o/\o.ExactDict/\o.data=.dict es ep/\es.toList=xs.map (entryOfKey (tupleKind (mixKind P w)))/\(xs.map (·.1)).Nodup
 | .set S n=>h.SetOf (intKind P w) a S n
 | .ins C dx fs=>H dx=some (.own a)/\fs.length<=1000/\dx≠a/\h.get? a=some (PySem.W.instObj C dx) ∧
    ∃ mA,h.Ns1 dx mA/\(∀ f,RelO (fs.lookup f) (mA f))/\PySem.Within mA (fs.map (·.1))
 | .own _=>∃ o,h.get? a=some o
 | .xd fs=>∃ mA,h.Ns1 a mA/\∀ f,RelO (fs.lookup f) (mA f)
 | .rng lo hi=>∃ t u v,h.get? a=some { cls:=.type "range",data:=.fields #[.int lo t,.int hi u,.int 1 v] }
 | .frz o u=>h.get? a=some o/\ObjOk H h a u
 | .tbl ps=>h.get? a=some { cls:=.none,data:=.fields ps }
 | .met f x=>h.get? a=some (PySem.W.methodObj (.ref f) (.ref x))
 | .ext φ=>φ h/\(∃ o,h.get? a=some o)/\∀ h1 h2:Heap,φ h1->(∀ o,h1.get? a=some o->h2.get? a=some o)->φ h2
def HOk (H:Hp) (h:Heap):Prop:=∀ a o,H a=some o->ObjOk P w H h a o
end
section
variable {P:Program}{w:World}{H H':Hp}{h h':Heap}{a:Addr}{o:HO}
theorem ObjOk.lt (x:ObjOk P w H h a o):a<h.objs.size:=by
 cases o with
 | lst xs=>obtain⟨_,_,_,_,e⟩:=x;exact Heap.lt_size e
 | tup xs=>obtain⟨_,_,_,p⟩:=x;exact p.lt
 | dK kvs=>obtain⟨_,_,_,_,o,_,_,e,_⟩:=x;exact Heap.lt_size e
 | dT kvs=>obtain⟨_,_,_,_,o,_,_,e,_⟩:=x;exact Heap.lt_size e
 | set S n=>obtain⟨o,_,_,_,e,_⟩:=x;exact Heap.lt_size e
 | ins C dx fs=>obtain⟨_,_,_,e,_⟩:=x;exact Heap.lt_size e
 | own y=>obtain⟨_,e⟩:=x;exact Heap.lt_size e
 | xd fs=>obtain⟨_,⟨_,_,_,e,_⟩,_⟩:=x;exact Heap.lt_size e
 | rng lo hi=>obtain⟨_,_,_,e⟩:=x;exact Heap.lt_size e
 | frz ob u=>obtain⟨e,_⟩:=x;exact Heap.lt_size e
 | tbl ps=>exact Heap.lt_size (show h.get? a=some _ from x)
 | met f y=>exact Heap.lt_size (show h.get? a=some _ from x)
 | ext φ=>obtain⟨_,⟨_,e⟩,_⟩:=x;exact Heap.lt_size e
theorem Paired.mapP {α β:Type}{F G:α->β->Prop}:∀{l₁:List α}{l₂:List β},Paired F l₁ l₂->(∀ a b,F a b->G a b)->Paired G l₁ l₂
 | _,_,.nil,_=>.nil
 | _,_,.cons r t,f=>.cons (f _ _ r) (Paired.mapP t f)
theorem ObjOk.stay (x:ObjOk P w H h a o) (k:∀ b u,(b=a\/H b=some (.own a))->h.get? b=some u->h'.get? b=some u)
 (ho:∀ b,H b=some (.own a)->H' b=some (.own a)) (ht:∀ b xs,H b=some (.tup xs)->H' b=some (.tup xs)):ObjOk P w H' h' a o:=by
 induction o with
 | lst xs=>obtain⟨z,its,n,r,e⟩:=x;exact ⟨z,its,n,r,k _ _ (.inl rfl) e⟩
 | tup xs=>obtain⟨z,its,r,ob,e,c⟩:=x;exact ⟨z,its,r,ob,k _ _ (.inl rfl) e,c⟩
 | dK kvs=>obtain⟨z,y,vs,r,ob,es,ep,e,c⟩:=x;exact ⟨z,y,vs,r,ob,es,ep,k _ _ (.inl rfl) e,c⟩
 | dT kvs =>
   obtain⟨z,y,xs,r,ob,es,ep,e,c⟩:=x
   exact ⟨z,y,xs,Paired.mapP r fun p q z=>⟨z.1,ht _ _ z.2.1,z.2.2⟩,ob,es,ep,k _ _ (.inl rfl) e,c⟩
 | set S n=>obtain⟨ob,es,ep,t,e,c⟩:=x;exact ⟨ob,es,ep,t,k _ _ (.inl rfl) e,c⟩
 | ins C dx fs =>
   obtain⟨d,z,ne,e,mA,⟨od,es,ep,e2,c⟩,r⟩:=x
   exact ⟨ho _ d,z,ne,k _ _ (.inl rfl) e,mA,⟨od,es,ep,k _ _ (.inr d) e2,c⟩,r⟩
 | own y=>obtain⟨ob,e⟩:=x;exact ⟨ob,k _ _ (.inl rfl) e⟩
 | xd fs=>obtain⟨mA,⟨od,es,ep,e,c⟩,r⟩:=x;exact ⟨mA,⟨od,es,ep,k _ _ (.inl rfl) e,c⟩,r⟩
 | rng lo hi=>obtain⟨t,u,v,e⟩:=x;exact ⟨t,u,v,k _ _ (.inl rfl) e⟩
 | frz ob u ih=>obtain⟨e,q⟩:=x;exact ⟨k _ _ (.inl rfl) e,ih q⟩
 | tbl ps =>
   have e:h.get? a=some { cls:=.none,data:=.fields ps }:=x
   show h'.get? a=some { cls:=.none,data:=.fields ps }
   exact k a _ (.inl rfl) e
 | met f y =>
   have e:h.get? a=some (PySem.W.methodObj (.ref f) (.ref y)):=x
   show h'.get? a=some (PySem.W.methodObj (.ref f) (.ref y))
   exact k a _ (.inl rfl) e
 | ext φ=>obtain⟨p,⟨o,e⟩,st⟩:=x;exact ⟨st _ _ p fun o q=>k _ _ (.inl rfl) q,⟨o,k _ _ (.inl rfl) e⟩,st⟩
theorem HOk.lt (x:HOk P w H h) (e:H a=some o):a<h.objs.size:=(x a o e).lt
theorem HOk.fresh (x:HOk P w H h) (e:h.objs.size<=a):H a=none:=by
 cases q:H a with
 | none=>rfl
 | some u=>exact absurd (Nat.lt_of_lt_of_le (x.lt q) e) (Nat.lt_irrefl _)
theorem HOk.kept (x:HOk P w H h) (k:∀ b u,h.get? b=some u->h'.get? b=some u):HOk P w H h':=fun a o e =>
 (x a o e).stay (fun b u _ q=>k b u q) (fun _ q=>q) fun _ _ q=>q
theorem HOk.laid (x:HOk P w H h) (k:∀ b u,h.get? b=some u->h'.get? b=some u) (hp:h.objs.size<=a) (new:ObjOk P w (upd H a o) h' a o):HOk P w (upd H a o) h':=fun b u e=>by
 have hn:=x.fresh hp
 by_cases hb:b=a
 . subst hb;rw [Ac] at e;cases e;exact new
 . rw [Ae hb] at e
   exact (x b u e).stay (fun c v _ q=>k c v q) (fun c q=>by rw [Ae (Al q hn)];exact q) fun c xs q=>by rw [Ae (Al q hn)];exact q
end
def Rd (H:Hp) (a:Addr) (u:HO):Prop:=H a=some u\/∃ o,H a=some (.frz o u)
theorem Rd.ok {P:Program}{w:World}{H:Hp}{h:Heap}{a:Addr}{u:HO} (r:Rd H a u) (x:HOk P w H h):ObjOk P w H h a u:=by
 rcases r with r|⟨o,r⟩
 . exact x a u r
 . obtain⟨_,q⟩:=x a _ r
   exact q
def Mut:Option HO->Prop
 | some (.lst _)=>True
 | some (.dK _)=>True
 | some (.dT _)=>True
 | some (.set _ _)=>True
 | some (.ins _ _ _)=>True
 | some (.ext _)=>True
 | _=>False
section
variable {P:Program}{w:World}{H:Hp}{h h':Heap}{x e:Addr}{o':HO}
theorem HOk.write (ok:HOk P w H h) (mu:Mut (H x)) (he:e=x\/H e=some (.own x)) (k:∀ b u,b≠e->h.get? b=some u->h'.get? b=some u) (heo:∃ u,h'.get? e=some u)
 (new:ObjOk P w (upd H x o') h' x o'):HOk P w (upd H x o') h':=fun b u q=>by
 have nown:∀ c y,H c=some (.own y)->c≠x:=fun c y r z=>by subst z;rw [r] at mu;exact mu
 have ntup:∀ c xs,H c=some (.tup xs)->c≠x:=fun c xs r z=>by subst z;rw [r] at mu;exact mu
 by_cases hb:b=x
 . subst hb;rw [Ac] at q;cases q;exact new
 . rw [Ae hb] at q
   by_cases hbe:b=e
   . have q':H b=some (.own x):=by
      rcases he with z | z
      . exact absurd (hbe.trans z) hb
      . rw [hbe];exact z
     rw [q] at q';cases q'
     obtain⟨v,hv⟩:=heo
     exact ⟨v,by rw [hbe];exact hv⟩
   . refine (ok b u q).stay (fun c v hc r=>k c v ?_ r) (fun c r=>by rw [Ae (nown c b r)];exact r) fun c xs r=>by rw [Ae (ntup c xs r)];exact r
     rcases hc with rfl | hc
     . exact hbe
     . rintro rfl
       rcases he with z | z
       . exact nown c b hc z
       . rw [hc] at z;cases z;exact hb rfl
end
structure Un (fs ex:List Addr) (H H':Hp) (h h':Heap):Prop where
 keep:∀ b o,h.get? b=some o->H b=none->b ∉ fs->b ∉ ex->h'.get? b=some o
 slot:∀ b o,h.get? b=some o->H b=none->b∈fs->b ∉ ex->∃ sl,h'.get? b=some { o with slots:=sl }
 free:∀ b o,h.get? b=some o->H b=none->b ∉ ex->H' b=none
 there:∀ b o,h.get? b=some o->b ∉ ex->∃ o',h'.get? b=some o'
 tups:∀ b xs,H b=some (.tup xs)->H' b=some (.tup xs)
 frzs:∀ b o u,H b=some (.frz o u)->H' b=some (.frz o u)
 tbls:∀ b ps,H b=some (.tbl ps)->∃ more,H' b=some (.tbl (ps++more))
section
variable {fs fs' ex ex':List Addr}{H H1 H2:Hp}{h h1 h2 h':Heap}{a x e:Addr}{o:HO}
theorem Un.any (u:Un fs ex H H1 h h1) {b:Addr}{ob:Obj} (q:h.get? b=some ob) (n:H b=none) (hx:b ∉ ex):∃ sl,h1.get? b=some { ob with slots:=sl }:=by
 by_cases hb:b∈fs
 . exact u.slot b ob q n hb hx
 . exact ⟨ob.slots,u.keep b ob q n hb hx⟩
theorem Un.kept (k:∀ b u,h.get? b=some u->h'.get? b=some u):Un fs ex H H h h' :=
 ⟨fun b ob q _ _ _=>k b ob q,fun b ob q _ _ _=>⟨ob.slots,k b ob q⟩,fun _ _ _ n _=>n,fun b ob q _=>⟨ob,k b ob q⟩,fun _ _ q=>q,fun _ _ _ q=>q,fun _ ps q=>⟨#[],by rw [q];simp⟩⟩
theorem Un.refl:Un fs ex H H h h:=Un.kept fun _ _ q=>q
theorem Un.laid (k:∀ b u,h.get? b=some u->h'.get? b=some u) (hp:h.objs.size<=a) (hn:H a=none):Un fs ex H (upd H a o) h h' where
 keep:=fun b u q _ _ _=>k b u q
 slot:=fun b u q _ _ _=>⟨u.slots,k b u q⟩
 free:=fun b u q n _=>by rw [Ae (Nat.ne_of_lt (Nat.lt_of_lt_of_le (Heap.lt_size q) hp))];exact n
 there:=fun b u q _=>⟨u,k b u q⟩
 tups:=fun b xs q=>by rw [Ae (Al q hn)];exact q
 frzs:=fun b u xs q=>by rw [Ae (Al q hn)];exact q
 tbls:=fun b ps q=>⟨#[],by rw [Ae (Al q hn),q];simp⟩
theorem Un.write (mu:Mut (H x)) (he:e=x\/H e=some (.own x)) (k:∀ b u,b≠e->h.get? b=some u->h'.get? b=some u) (heo:∃ u,h'.get? e=some u):Un fs ex H (upd H x o) h h':=by
 have hx:∀ b,H b=none->b≠x:=fun b n z=>by subst z;rw [n] at mu;exact mu
 have hb:∀ b,H b=none->b≠e:=fun b n z=>by
  subst z
  rcases he with r | r
  . exact hx b n r
  . rw [n] at r;cases r
 have hm:∀ b u,H b=some u->¬Mut (some u)->b≠x:=fun b u q nm z=>by subst z;rw [q] at mu;exact nm mu
 refine⟨fun b u q n _ _=>k b u (hb b n) q,fun b u q n _ _=>⟨u.slots,k b u (hb b n) q⟩,fun b u q n _=>by rw [Ae (hx b n)];exact n,fun b u q _=>?_,
  fun b xs q=>by rw [Ae (hm b _ q fun z=>z)];exact q,fun b u xs q=>by rw [Ae (hm b _ q fun z=>z)];exact q,fun b ps q=>⟨#[],by rw [Ae (hm b _ q fun z=>z),q];simp⟩⟩
 by_cases hbe:b=e
 . subst hbe;exact heo
 . exact ⟨u,k b u hbe q⟩
end
def trk (h:Heap) (H:Hp):List Addr:=(List.range h.objs.size).filter fun a=>(H a).isSome
def hidT (h:Heap) (H:Hp):Heap:=PySem.W.hideAll h (trk h H)
theorem Al0 (h:Heap) (H:Hp):(hidT h H).objs.size=h.objs.size:=PySem.W.hideAll_size _ _
theorem Au0 {h:Heap}{H:Hp}{b:Addr}{o:Obj} (e:h.get? b=some o) (n:H b=none):(hidT h H).get? b=some o :=
 PySem.W.hideAll_get _ e fun hm=>by
  have q:(H b).isSome=true:=(List.mem_filter.mp hm).2
  rw [n] at q;simp at q
theorem A05 {h:Heap}{H:Hp}{b:Addr}{o:Obj} (e:(hidT h H).get? b=some o):h.get? b=some o/\H b=none:=by
 have e':h.get? b=some o:=PySem.W.of_hideAll (trk h H) e
 refine⟨e',?_⟩
 cases q:H b with
 | none=>rfl
 | some x =>
   have hm:b∈trk h H:=List.mem_filter.mpr ⟨List.mem_range.mpr (Heap.lt_size e'),by simp [q]⟩
   have z:(hidT h H).get? b=none:=PySem.W.hideAll_none (trk h H) hm
   rw [z] at e;cases e
def A51 (g h:Heap) (L:Addr):List (Addr × Obj):=(List.range h.objs.size).filterMap fun a=>if a=L\/(g.get? a).isSome=true then none else (h.get? a).map fun o=>(a,o)
def rest (g h:Heap) (L d:Addr):List (Addr × Obj):=(A51 g h L).filter fun p=>decide (p.1≠d)
end L2
namespace L2
open PySem PySem.Spec PyProof.Rows
structure Mod (K:W.Frag) (mg:Str->Option Value) (base:Heap):Prop where
 kin:K.In base
 glob:base.Ns mainGlobals mg
 blt:∃ mb,base.Ns builtinsNs mb/\∀ x:Str,x≠"__name__"->mb x=bootBuiltins x
 nolimit:base.NoLimit
structure Cx where
 prog:Program
 w:World
 K:PySem.W.Frag
 mg:Str->Option Value
 base:Heap
 A:Around
 N:List Str
 s₀:Shared
 H₀:Hp
 env:Env
 outer:List Env
 stack:List Env
 ex:List Addr
 fn:Str->Bool
 calm:Bool
 pn:List (Addr × Obj)
 xe:Value->Shared->Prop
def frs (l:List Env):List Addr:=l.filterMap (·.frame)
abbrev Cx.fs (X:Cx):List Addr:=frs X.outer
def Vis (sc:Scope) (x:Str):Prop:=sc.names.lookup x=some .local\/sc.names.lookup x=some .cell\/sc.names.lookup x=some .free
def Loc (sc:Scope) (x:Str):Prop:=sc.names.lookup x=some .local\/sc.names.lookup x=some .cell
def Look (env:Env) (h:Heap) (m:Str->Option Value) (x:Str) (u:Value):Prop :=
 (env.kindOf x=some .local/\m x=some u)\/((env.kindOf x=some .cell\/env.kindOf x=some .free)/\∃ c,env.cells.lookup x=some c/\h.IsCell c (some u))
structure Cx.Ok (X:Cx):Prop where
 mod:Mod X.K X.mg X.base
 kind:X.env.scope.kind=.function
 glob:X.env.globals=mainGlobals
 blt:X.env.builtins=builtinsNs
 above:X.s₀.heap.objs.size<=X.env.locals
 inj:∀ x y c,X.env.cells.lookup x=some c->X.env.cells.lookup y=some c->x=y
 has:∀ x,(X.env.kindOf x=some .cell\/X.env.kindOf x=some .free)->∃ c,X.env.cells.lookup x=some c
 cab:∀ x c,X.fn x=true->X.env.cells.lookup x=some c->X.s₀.heap.objs.size<=c
 hd:X.calm=true->X.A.handled=none
 frames:X.A.frames=some X.stack
 stk:X.stack=X.outer\/(X.stack=X.env::X.outer/\X.env.frame=some X.env.locals)
 exf:∀ b∈X.ex,b≠X.env.locals/\∀ x c,X.env.cells.lookup x=some c->c≠b
 bs:∀ b o,X.base.get? b=some o->X.s₀.heap.get? b=some o/\X.H₀ b=none
 bsz:X.base.objs.size<=X.s₀.heap.objs.size
 noex:∀ b o,X.base.get? b=some o->b ∉ X.ex
 exfs:∀ b∈X.ex,b ∉ X.fs
 funs:X.s₀.heap.FunFrames X.base X.outer
 frf:∀ b∈X.fs,X.H₀ b=none
structure Inv (X:Cx) (Aa:List (Addr × Obj)) (σ:List (Option V)) (H:Hp) (s:Shared):Prop where
 ok:X.Ok
 os:s.os=X.s₀.os
 bare:AllBare s.gens
 base:Un X.fs X.ex X.H₀ H X.s₀.heap s.heap
 loc:∃ m,s.heap.Ns X.env.locals m/\∀ (i:Nat) (x:Str) (v:V),X.N[i]?=some x->σ[i]?=some (some v)->Vis X.env.scope x->∃ u,RelV v u/\Look X.env s.heap m x u
 cell:∀ x c,X.env.cells.lookup x=some c->∃ v,s.heap.IsCell c v
 free:H X.env.locals=none
 freeC:∀ x c,X.env.cells.lookup x=some c->H c=none
 pin:∀ p∈X.pn++Aa,s.heap.get? p.1=some p.2/\H p.1=none/\p.1≠X.env.locals/\p.1 ∉ X.fs/\∀ v,p.2.data≠.cell v
 hok:HOk X.prog X.w H s.heap
 len:σ.length=X.N.length
section
variable {X:Cx}{Aa:List (Addr × Obj)}{σ:List (Option V)}{H H':Hp}{s:Shared}{h':Heap}
theorem Cx.Ok.nofr (ok:X.Ok) {b:Addr}{o:Obj} (e:X.base.get? b=some o):b ∉ X.fs:=fun hb=>by
 have:=(ok.funs.mem hb).1
 rw [e] at this;cases this
theorem Inv.bs (I:Inv X Aa σ H s):∀ b o,X.base.get? b=some o->s.heap.get? b=some o/\H b=none:=fun b o e =>
 ⟨I.base.keep b o (I.ok.bs b o e).1 (I.ok.bs b o e).2 (I.ok.nofr e) (I.ok.noex b o e),I.base.free b o (I.ok.bs b o e).1 (I.ok.bs b o e).2 (I.ok.noex b o e)⟩
theorem Inv.bk (I:Inv X Aa σ H s):∀ b o,X.base.get? b=some o->s.heap.get? b=some o:=fun b o e=>(I.bs b o e).1
theorem Inv.mod (I:Inv X Aa σ H s):Mod X.K X.mg X.base:=I.ok.mod
theorem Inv.kIn (I:Inv X Aa σ H s):X.K.In s.heap:=I.ok.mod.kin.keeps I.bk
theorem Inv.lt (I:Inv X Aa σ H s):X.env.locals<s.heap.objs.size:=let ⟨_,hn,_⟩:=I.loc;hn.lt
theorem Inv.sz (I:Inv X Aa σ H s):X.s₀.heap.objs.size<=s.heap.objs.size:=Nat.le_trans I.ok.above (Nat.le_of_lt I.lt)
theorem Inv.nofs (I:Inv X Aa σ H s) {a:Addr} (h:s.heap.objs.size<=a):a ∉ X.fs:=fun hb=>by
 obtain⟨_,o,ho,_⟩:=I.ok.funs.mem hb
 exact absurd (Nat.lt_of_lt_of_le (Heap.lt_size ho) (Nat.le_trans I.sz h)) (Nat.lt_irrefl _)
theorem Inv.cne (I:Inv X Aa σ H s):∀ x c,X.env.cells.lookup x=some c->c≠X.env.locals:=fun x c e z=>by
 obtain⟨v,o,ho,hd⟩:=I.cell x c e
 obtain⟨m,⟨o',es,ep,ho',hd',_⟩,_⟩:=I.loc
 rw [z,ho'] at ho;cases ho;rw [hd'] at hd;cases hd
theorem Inv.funs (I:Inv X Aa σ H s):s.heap.FunFrames X.base X.outer:=by
 have all:∀ (l:List Env),(∀ b∈frs l,b∈X.fs)->X.s₀.heap.FunFrames X.base l->s.heap.FunFrames X.base l:=by
  intro l
  induction l with
  | nil=>intro _ _;trivial
  | cons env r ih =>
    intro hs hl
    obtain⟨hk,⟨L,o,hf,hn,ho,hd⟩,hr⟩:=hl
    have hL:L∈X.fs:=hs L (by unfold frs;rw [List.filterMap_cons,hf];exact List.mem_cons_self)
    obtain⟨sl,e⟩:=I.base.slot L o ho (I.ok.frf L hL) hL fun z=>I.ok.exfs L z hL
    exact ⟨hk,⟨L,_,hf,hn,e,hd⟩,ih (fun b hb=>hs b (by unfold frs;rw [List.filterMap_cons,hf];exact List.mem_cons_of_mem _ hb)) hr⟩
 exact all X.outer (fun _ hb=>hb) I.ok.funs
theorem Inv.stack (I:Inv X Aa σ H s):s.heap.FunFrames X.base X.stack:=by
 rcases I.ok.stk with e|⟨e,hf⟩
 . rw [e];exact I.funs
 . rw [e]
   obtain⟨m,hn,_⟩:=I.loc
   refine .cons (by rw [I.ok.kind];decide) hf hn ?_ I.funs
   exact Heap.get?_none_of_le (Nat.le_trans I.ok.bsz I.ok.above)
theorem Inv.stkSub (I:Inv X Aa σ H s):∀ b∈frs X.stack,b∈X.env.locals::X.fs:=fun b hb=>by
 rcases I.ok.stk with e|⟨e,hf⟩
 . rw [e] at hb;exact List.mem_cons_of_mem _ hb
 . rw [e] at hb
   unfold frs at hb
   rw [List.filterMap_cons,hf] at hb
   exact hb
theorem Inv.stkFree (I:Inv X Aa σ H s):∀ b∈frs X.stack,H b=none:=fun b hb=>by
 rcases List.mem_cons.mp (I.stkSub b hb) with e | hb
 . rw [e];exact I.free
 . obtain⟨_,o,ho,_⟩:=I.ok.funs.mem hb
   exact I.base.free b o ho (I.ok.frf b hb) fun z=>I.ok.exfs b z hb
theorem Inv.step {g':Array GenState}{t':Nat}{d':Drawn}{ch:List Addr} (I:Inv X Aa σ H s)
 (hch:∀ b∈ch,(b∈X.ex\/X.s₀.heap.objs.size<=b)/\b≠X.env.locals/\(∀ x c,X.env.cells.lookup x=some c->c≠b)/\∀ p∈X.pn++Aa,p.1≠b)
 (keep:∀ b o,b≠X.env.locals->b ∉ X.fs->b ∉ ch->s.heap.get? b=some o->H b=none->h'.get? b=some o)
 (slot:∀ b o,b≠X.env.locals->b∈X.fs->b ∉ ch->s.heap.get? b=some o->H b=none->∃ sl,h'.get? b=some { o with slots:=sl }) (free:∀ b o,b ∉ ch->s.heap.get? b=some o->H b=none->H' b=none)
 (there:∀ b o,b ∉ ch->s.heap.get? b=some o->∃ o',h'.get? b=some o')
 (tups:∀ b xs,H b=some (.tup xs)->H' b=some (.tup xs)) (frzs:∀ b o u,H b=some (.frz o u)->H' b=some (.frz o u)) (tbls:∀ b ps,H b=some (.tbl ps)->∃ more,H' b=some (.tbl (ps++more)))
 (ns:∀ m,s.heap.Ns X.env.locals m->h'.Ns X.env.locals m) (hok:HOk X.prog X.w H' h') (hg:AllBare g') :
 Inv X Aa σ H' { s with heap:=h',gens:=g',drawn:=d',toks:=t' }:=by
 have neL:∀ b o,X.s₀.heap.get? b=some o->b≠X.env.locals:=fun b o e=>Nat.ne_of_lt (Nat.lt_of_lt_of_le (Heap.lt_size e) I.ok.above)
 have neC:∀ b o,X.s₀.heap.get? b=some o->b ∉ X.ex->b ∉ ch:=fun b o e hx hb=>by
  rcases (hch b hb).1 with z | z
  . exact hx z
  . exact absurd (Nat.lt_of_lt_of_le (Heap.lt_size e) z) (Nat.lt_irrefl _)
 have cellK:∀ x c,X.env.cells.lookup x=some c->∀ v,s.heap.IsCell c v->h'.IsCell c v:=fun x c e v ⟨o,ho,hd⟩=>by
  have nch:c ∉ ch:=fun z=>(hch c z).2.2.1 x c e rfl
  by_cases hc:c∈X.fs
  . obtain⟨sl,q⟩:=slot c o (I.cne x c e) hc nch ho (I.freeC x c e)
    exact ⟨_,q,hd⟩
  . exact ⟨o,keep c o (I.cne x c e) hc nch ho (I.freeC x c e),hd⟩
 refine⟨I.ok,I.os,hg,⟨fun b o e n hb hx=>?_,fun b o e n hb hx=>?_,fun b o e n hx=>?_,fun b o e hx=>?_,fun b xs e=>tups b xs (I.base.tups b xs e),fun b o xs e=>frzs b o xs (I.base.frzs b o xs e),fun b ps e=>?_⟩,?_,fun x c e=>?_,?_,fun x c e=>?_,fun p hp=>?_,hok,I.len⟩
 . exact keep b o (neL b o e) hb (neC b o e hx) (I.base.keep b o e n hb hx) (I.base.free b o e n hx)
 . obtain⟨sl,e1⟩:=I.base.slot b o e n hb hx
   obtain⟨sl',e2⟩:=slot b _ (neL b o e) hb (neC b o e hx) e1 (I.base.free b o e n hx)
   exact ⟨sl',e2⟩
 . obtain⟨o',e1⟩:=I.base.there b o e hx
   exact free b o' (neC b o e hx) e1 (I.base.free b o e n hx)
 . obtain⟨o',e1⟩:=I.base.there b o e hx
   exact there b o' (neC b o e hx) e1
 . obtain⟨m1,e1⟩:=I.base.tbls b ps e
   obtain⟨m2,e2⟩:=tbls b _ e1
   exact ⟨m1++m2,by rw [e2,Array.append_assoc]⟩
 . obtain⟨m,hn,hl⟩:=I.loc
   refine⟨m,ns m hn,fun i x v e1 e2 e3=>?_⟩
   obtain⟨u,r,l⟩:=hl i x v e1 e2 e3
   refine⟨u,r,?_⟩
   rcases l with l|⟨k,c,e,z⟩
   . exact .inl l
   . exact .inr ⟨k,c,e,cellK x c e _ z⟩
 . obtain⟨v,z⟩:=I.cell x c e
   exact ⟨v,cellK x c e v z⟩
 . obtain⟨m,⟨o,_,_,ho,_⟩,_⟩:=I.loc
   exact free _ o (fun z=>(hch _ z).2.1 rfl) ho I.free
 . obtain⟨v,o,ho,hd⟩:=I.cell x c e
   exact free c o (fun z=>(hch c z).2.2.1 x c e rfl) ho (I.freeC x c e)
 . obtain⟨e,n,ne,nf,d⟩:=I.pin p hp
   have nch:p.1 ∉ ch:=fun z=>(hch p.1 z).2.2.2 p hp rfl
   exact ⟨keep p.1 p.2 ne nf nch e n,free p.1 p.2 nch e n,ne,nf,d⟩
theorem Inv.un {t':Nat} (I:Inv X Aa σ H s) (u:Un X.fs [] H H' s.heap h') (hok:HOk X.prog X.w H' h'):Inv X Aa σ H' { s with heap:=h',toks:=t' }:=by
 obtain⟨m,⟨o,es,ep,ho,r⟩,_⟩:=id I.loc
 obtain⟨sl,hL⟩:=u.any ho I.free (by simp)
 exact I.step (g':=s.gens) (d':=s.drawn) (ch:=[]) (fun _ z=>nomatch z) (fun b o _ hb _ e n=>u.keep b o e n hb (by simp)) (fun b o _ hb _ e n=>u.slot b o e n hb (by simp)) (fun b o _ e n=>u.free b o e n (by simp)) (fun b o _ e=>u.there b o e (by simp)) u.tups u.frzs u.tbls (fun m' hm=>by
  obtain⟨o',es',ep',ho',r'⟩:=hm
  rw [ho] at ho';cases ho'
  exact ⟨_,es',ep',hL,r'⟩) hok I.bare
theorem Inv.call {g':Array GenState}{t':Nat}{d':Drawn}{ch:List Addr} (I:Inv X Aa σ H s) (u:Un (frs X.stack) ch H H' s.heap h') (hok:HOk X.prog X.w H' h') (hg:AllBare g')
 (hch:∀ b∈ch,(b∈X.ex\/X.s₀.heap.objs.size<=b)/\b≠X.env.locals/\(∀ x c,X.env.cells.lookup x=some c->c≠b)/\∀ p∈X.pn++Aa,p.1≠b) :
 Inv X Aa σ H' { s with heap:=h',gens:=g',drawn:=d',toks:=t' }:=by
 obtain⟨m,⟨o,es,ep,ho,r⟩,_⟩:=id I.loc
 obtain⟨sl,hL⟩:=u.any ho I.free fun z=>(hch _ z).2.1 rfl
 exact I.step (ch:=ch) hch (fun b o hL hb hc e n=>u.keep b o e n (fun z=>(List.mem_cons.mp (I.stkSub b z)).elim hL hb) hc) (fun b o _ _ hc e n=>u.any e n hc) (fun b o hc e n=>u.free b o e n hc) (fun b o hc e=>u.there b o e hc) u.tups u.frzs u.tbls (fun m' hm=>by
  obtain⟨o',es',ep',ho',r'⟩:=hm
  rw [ho] at ho';cases ho'
  exact ⟨_,es',ep',hL,r'⟩) hok hg
theorem Inv.turned {t':Nat}{it:Addr} (I:Inv X Aa σ H s) (k:∀ b o,b≠it->s.heap.get? b=some o->h'.get? b=some o) (hn:H it=none) (hL:it≠X.env.locals)
 (h1:it∈X.ex\/X.s₀.heap.objs.size<=it) (h2:∀ x c,X.env.cells.lookup x=some c->c≠it) (h3:∀ p∈X.pn++Aa,p.1≠it):Inv X Aa σ H { s with heap:=h',toks:=t' }:=by
 have nit:∀ b u,H b=some u->b≠it:=fun b u e z=>by rw [z,hn] at e;cases e
 refine I.step (g':=s.gens) (d':=s.drawn) (ch:=[it]) (fun b hb=>?_) (fun b o _ _ hc e _=>k b o (fun z=>hc (by simp [z])) e) (fun b o _ _ hc e _=>⟨o.slots,k b o (fun z=>hc (by simp [z])) e⟩) (fun _ _ _ _ n=>n)
  (fun b o hc e=>⟨o,k b o (fun z=>hc (by simp [z])) e⟩) (fun _ _ e=>e) (fun _ _ _ e=>e) (fun b ps e=>⟨#[],by rw [e];simp⟩) (fun m hm=>?_) (fun b u e=>?_) I.bare
 . have e:b=it:=by simpa using hb
   subst e
   exact ⟨h1,hL,h2,h3⟩
 . obtain⟨o,es,ep,ho,r⟩:=hm
   exact ⟨o,es,ep,k _ o (Ne.symm hL) ho,r⟩
 . refine (I.hok b u e).stay (fun c v hc q=>k c v ?_ q) (fun _ q=>q) fun _ _ q=>q
   rcases hc with z | z
   . rw [z];exact nit b u e
   . exact nit c _ z
theorem Inv.tok (I:Inv X Aa σ H s) (t:Nat):Inv X Aa σ H { s with toks:=t }:=I.un (h':=s.heap) (t':=t) Un.refl I.hok
theorem Inv.kept {t':Nat} (I:Inv X Aa σ H s) (k:∀ b u,s.heap.get? b=some u->h'.get? b=some u):Inv X Aa σ H { s with heap:=h',toks:=t' }:=I.un (Un.kept k) (I.hok.kept k)
theorem Inv.laid {a:Addr}{o:HO}{t':Nat} (I:Inv X Aa σ H s) (k:∀ b u,s.heap.get? b=some u->h'.get? b=some u) (hp:s.heap.objs.size<=a) (new:ObjOk X.prog X.w (upd H a o) h' a o) :
 Inv X Aa σ (upd H a o) { s with heap:=h',toks:=t' }:=I.un (Un.laid k hp (I.hok.fresh hp)) (I.hok.laid k hp new)
theorem Inv.write {x e:Addr}{o:HO}{t':Nat} (I:Inv X Aa σ H s) (mu:Mut (H x)) (he:e=x\/H e=some (.own x)) (k:∀ b u,b≠e->s.heap.get? b=some u->h'.get? b=some u) (heo:∃ u,h'.get? e=some u)
 (new:ObjOk X.prog X.w (upd H x o) h' x o):Inv X Aa σ (upd H x o) { s with heap:=h',toks:=t' }:=I.un (Un.write mu he k heo) (I.hok.write mu he k heo new)
theorem Inv.pins_of {pins':List (Addr × Obj)} (I:Inv X Aa σ H s) (h:∀ p∈pins',s.heap.get? p.1=some p.2/\H p.1=none/\p.1≠X.env.locals/\p.1 ∉ X.fs/\∀ v,p.2.data≠.cell v):Inv X pins' σ H s :=
 ⟨I.ok,I.os,I.bare,I.base,I.loc,I.cell,I.free,I.freeC,fun p hp=>(List.mem_append.mp hp).elim (fun z=>I.pin p (List.mem_append_left _ z)) (h p),I.hok,I.len⟩
theorem m8 {N:List Str} (hN:N.Nodup) {i j:Nat}{x:Str} (a:N[i]?=some x) (b:N[j]?=some x):i=j:=by
 obtain⟨h1,e1⟩:=List.getElem?_eq_some_iff.mp a
 obtain⟨h2,e2⟩:=List.getElem?_eq_some_iff.mp b
 exact (List.getElem_inj hN).mp (e1.trans e2.symm)
theorem V4 {M:Model}{A:Around}{E:Value->Shared->Prop}{i:Nat}{x:Str}{v:V}{u:Value}{Q:Unit->Shared->Prop} (I:Inv X Aa σ H s) (hN:X.N.Nodup) (hi:X.N[i]?=some x) (hx:Loc X.env.scope x) (r:RelV v u)
 (h:∀ s',Inv X Aa (σ.set i (some v)) H s'->(∃ a,Heap.SameBut a s.heap s'.heap/\(a=X.env.locals\/X.env.cells.lookup x=some a))->Q () s') (hf:X.fn x=true\/X.env.scope.names.lookup x=some .local:=by first | exact .inl rfl | exact .inr rfl | assumption):wpAny M A (storeName X.env x u) Q E s:=by
 obtain⟨m,hn,hl⟩:=id I.loc
 have hcls:(X.env.scope.kind==.class || (X.env.scope.kind==.module&&X.env.locals != X.env.globals))=false:=by rw [I.ok.kind];rfl
 have hiσ:i<σ.length:=by rw [I.len];exact (List.getElem?_eq_some_iff.mp hi).1
 have cne:=I.cne
 have tracked:∀{a:Addr}{h':Heap},(∃ o,s.heap.get? a=some o/\H a=none)->Heap.SameBut a s.heap h'->HOk X.prog X.w H h':=fun {a h'} ha hs b ob e=>by
  obtain⟨_,_,hfree⟩:=ha
  refine (I.hok b ob e).stay (fun c w' hc q=>(hs.2 c ?_).trans q) (fun _ q=>q) fun _ _ q=>q
  rintro rfl
  rcases hc with rfl | hc
  . rw [hfree] at e;cases e
  . rw [hfree] at hc;cases hc
 rcases hx with hk | hk
 . refine wpAny_storeName_local hk hn (fun h' hn' hs=>?_) hcls
   obtain⟨oL,_,_,hoL,_⟩:=id hn
   refine h _ ⟨I.ok,I.os,I.bare,⟨fun b o e n hb hx=>?_,fun b o e n hb hx=>?_,I.base.free,fun b o e hx=>?_,I.base.tups,I.base.frzs,I.base.tbls⟩,⟨_,hn',fun j y v' e1 e2 e3=>?_⟩,fun y c e=>?_,I.free,I.freeC,fun p hp=>?_,tracked ⟨oL,hoL,I.free⟩ hs,by simpa using I.len⟩ ⟨_,hs,.inl rfl⟩
   . exact (hs.2 b (Nat.ne_of_lt (Nat.lt_of_lt_of_le (Heap.lt_size e) I.ok.above))).trans (I.base.keep b o e n hb hx)
   . obtain⟨sl,e1⟩:=I.base.slot b o e n hb hx
     exact ⟨sl,(hs.2 b (Nat.ne_of_lt (Nat.lt_of_lt_of_le (Heap.lt_size e) I.ok.above))).trans e1⟩
   . obtain⟨o',e1⟩:=I.base.there b o e hx
     exact ⟨o',(hs.2 b (Nat.ne_of_lt (Nat.lt_of_lt_of_le (Heap.lt_size e) I.ok.above))).trans e1⟩
   . by_cases hj:j=i
     . subst hj
       rw [hi] at e1;cases e1
       rw [List.getElem?_set_self hiσ] at e2
       cases e2
       exact ⟨u,r,.inl ⟨hk,by simp⟩⟩
     . rw [List.getElem?_set_ne (Ne.symm hj)] at e2
       obtain⟨u',r',q⟩:=hl j y v' e1 e2 e3
       refine⟨u',r',?_⟩
       rcases q with ⟨k,e⟩|⟨k,c,e,z⟩
       . refine .inl ⟨k,?_⟩
         have:y≠x:=fun e=>hj (m8 hN e1 (e▸hi))
         simp [this,e]
       . exact .inr ⟨k,c,e,z.sameBut hs (cne y c e)⟩
   . obtain⟨w',z⟩:=I.cell y c e
     exact ⟨w',z.sameBut hs (cne y c e)⟩
   . obtain⟨e,n,ne,nf,d⟩:=I.pin p hp
     exact ⟨(hs.2 p.1 ne).trans e,n,ne,nf,d⟩
 . have hfn:X.fn x=true:=by
    rcases hf with z | z
    . exact z
    . rw [z] at hk;cases hk
   obtain⟨c,hc⟩:=I.ok.has x (.inl hk)
   obtain⟨w',z⟩:=I.cell x c hc
   refine wpAny_storeName_cell I.ok.kind hk hc z (fun h' hc' hs=>?_)
   obtain⟨oc,hoc,hocd⟩:=id z
   refine h { s with heap:=h' } ⟨I.ok,I.os,I.bare,⟨fun b o e n hb hx=>?_,fun b o e n hb hx=>?_,I.base.free,fun b o e hx=>?_,I.base.tups,I.base.frzs,I.base.tbls⟩,⟨m,hn.sameBut hs (Ne.symm (cne x c hc)),fun j y v' e1 e2 e3=>?_⟩,fun y c' e=>?_,I.free,I.freeC,fun p hp=>?_,tracked ⟨oc,hoc,I.freeC x c hc⟩ hs,by simpa using I.len⟩ ⟨c,hs,.inr hc⟩
   . exact (hs.2 b (Nat.ne_of_lt (Nat.lt_of_lt_of_le (Heap.lt_size e) (I.ok.cab x c hfn hc)))).trans (I.base.keep b o e n hb hx)
   . obtain⟨sl,e1⟩:=I.base.slot b o e n hb hx
     exact ⟨sl,(hs.2 b (Nat.ne_of_lt (Nat.lt_of_lt_of_le (Heap.lt_size e) (I.ok.cab x c hfn hc)))).trans e1⟩
   . obtain⟨o',e1⟩:=I.base.there b o e hx
     exact ⟨o',(hs.2 b (Nat.ne_of_lt (Nat.lt_of_lt_of_le (Heap.lt_size e) (I.ok.cab x c hfn hc)))).trans e1⟩
   . by_cases hj:j=i
     . subst hj
       rw [hi] at e1;cases e1
       rw [List.getElem?_set_self hiσ] at e2
       cases e2
       exact ⟨u,r,.inr ⟨.inl hk,c,hc,hc'⟩⟩
     . rw [List.getElem?_set_ne (Ne.symm hj)] at e2
       obtain⟨u',r',q⟩:=hl j y v' e1 e2 e3
       refine⟨u',r',?_⟩
       rcases q with q|⟨k,c',e,z'⟩
       . exact .inl q
       . refine .inr ⟨k,c',e,z'.sameBut hs ?_⟩
         rintro rfl
         exact hj (m8 hN e1 (I.ok.inj _ _ _ e hc▸hi))
   . by_cases hcc:c'=c
     . subst hcc;exact ⟨_,hc'⟩
     . obtain⟨w2,z2⟩:=I.cell y c' e
       exact ⟨w2,z2.sameBut hs hcc⟩
   . obtain⟨e,n,ne,nf,d⟩:=I.pin p hp
     refine⟨(hs.2 p.1 ?_).trans e,n,ne,nf,d⟩
     intro q
     rw [q,hoc] at e
     have q':oc=p.2:=Option.some.inj e
     exact d w' (by rw [←q'];exact hocd)
theorem j8 {M:Model}{A:Around}{E:Value->Shared->Prop}{i:Nat}{x:Str}{v:V}{u:Value}{Q:Unit->Shared->Prop} (I:Inv X Aa σ H s) (hN:X.N.Nodup) (hi:X.N[i]?=some x) (hx:Loc X.env.scope x) (r:RelV v u)
 (h:∀ s',Inv X Aa (σ.set i (some v)) H s'->Q () s') (hf:X.fn x=true\/X.env.scope.names.lookup x=some .local:=by first | exact .inl rfl | exact .inr rfl | assumption):wpAny M A (storeName X.env x u) Q E s :=
 V4 I hN hi hx r (fun s' I' _=>h s' I') hf
theorem Inv.call' {s':Shared}{ch:List Addr} (I:Inv X Aa σ H s) (ho:s'.os=s.os) (u:Un (frs X.stack) ch H H' s.heap s'.heap) (hok:HOk X.prog X.w H' s'.heap) (hg:AllBare s'.gens)
 (hch:∀ b∈ch,(b∈X.ex\/X.s₀.heap.objs.size<=b)/\b≠X.env.locals/\(∀ x c,X.env.cells.lookup x=some c->c≠b)/\∀ p∈X.pn++Aa,p.1≠b):Inv X Aa σ H' s':=by
 obtain⟨h',g',d',t',o'⟩:=s'
 have e:o'=s.os:=ho
 subst e
 exact I.call (g':=g') (t':=t') (d':=d') u hok hg hch
end
abbrev XK:=Value->Option Addr->Hp->Prop
abbrev St:=List (Option V)
abbrev VK:=V->Hp->Prop
abbrev TE:=St->Hp->VK->Prop
abbrev TT:=St->Hp->(Bool->Hp->Prop)->Prop
abbrev TA:=St->Hp->(List V->Hp->Prop)->Prop
structure Ends where
 nx:St->Hp->Prop
 rt:VK
 bk:St->Hp->Prop:=fun _ _=>False
 ct:St->Hp->Prop:=fun _ _=>False
abbrev TS:=Ends->St->Hp->Prop
def EP (X:Cx) (Aa:List (Addr × Obj)) (σ:St) (Q:VK) (u:Value) (s':Shared):Prop:=∃ v H',Inv X Aa σ H' s'/\RelV v u/\Q v H'
def TP (X:Cx) (Aa:List (Addr × Obj)) (σ:St) (Q:Bool->Hp->Prop) (b:Bool) (s':Shared):Prop:=∃ H',Inv X Aa σ H' s'/\Q b H'
def AP (X:Cx) (Aa:List (Addr × Obj)) (σ:St) (Q:List V->Hp->Prop) (us:List Value) (s':Shared):Prop:=∃ vs H',Inv X Aa σ H' s'/\Vals vs us/\Q vs H'
def SP (X:Cx) (Aa:List (Addr × Obj)) (D:Ends) (f:Flow) (s':Shared):Prop :=
 match f with
 | .next=>∃ σ' H',Inv X Aa σ' H' s'/\D.nx σ' H'
 | .brk=>∃ σ' H',Inv X Aa σ' H' s'/\D.bk σ' H'
 | .cont=>∃ σ' H',Inv X Aa σ' H' s'/\D.ct σ' H'
 | .ret u=>∃ v σ' H',Inv X Aa σ' H' s'/\RelV v u/\D.rt v H'
def PE (X:Cx) (e:Expr) (t:TE):Prop :=
 ∀ (Aa:List (Addr × Obj)) (s:Shared) (σ:St) (H:Hp) (Q:VK),Inv X Aa σ H s->t σ H Q->wpAny (model X.prog X.w) X.A (eval e X.env) (EP X Aa σ Q) X.xe s
def PT (X:Cx) (e:Expr) (t:TT):Prop :=
 ∀ (Aa:List (Addr × Obj)) (s:Shared) (σ:St) (H:Hp) (Q:Bool->Hp->Prop),Inv X Aa σ H s->t σ H Q->wpAny (model X.prog X.w) X.A (isTrue e X.env (eval e X.env)) (TP X Aa σ Q) X.xe s
def PW (X:Cx) (e:Expr) (t:TT):Prop :=
 ∀ (whole:Sem Value) (Aa:List (Addr × Obj)) (s:Shared) (σ:St) (H:Hp) (Q:Bool->Hp->Prop),Inv X Aa σ H s->t σ H Q->wpAny (model X.prog X.w) X.A (isTrue e X.env whole) (TP X Aa σ Q) X.xe s
theorem PW.pt {X:Cx}{e:Expr}{t:TT} (h:PW X e t):PT X e t:=h _
def PA (X:Cx) (es:List Expr) (t:TA):Prop :=
 ∀ (pos:Pos) (Aa:List (Addr × Obj)) (s:Shared) (σ:St) (H:Hp) (Q:List V->Hp->Prop),Inv X Aa σ H s->t σ H Q->wpAny (model X.prog X.w) X.A (spliced (backTo pos (starEach es X.env))) (AP X Aa σ Q) X.xe s
def PS (X:Cx) (st:Stmt) (t:TS):Prop :=
 ∀ (Aa:List (Addr × Obj)) (s:Shared) (σ:St) (H:Hp) (D:Ends),Inv X Aa σ H s->t D σ H->wpAny (model X.prog X.w) X.A (exec st X.env) (SP X Aa D) X.xe s
def PSs (X:Cx) (st:List Stmt) (t:TS):Prop :=
 ∀ (Aa:List (Addr × Obj)) (s:Shared) (σ:St) (H:Hp) (D:Ends),Inv X Aa σ H s->t D σ H->wpAny (model X.prog X.w) X.A (execs st X.env) (SP X Aa D) X.xe s
theorem thn {α:Type}{t:Sem α}{Q Q':α->Shared->Prop}{M:Model}{A:Around}{E:Value->Shared->Prop}{s:Shared} (h:wpAny M A t Q E s) (hQ:∀ a s,Q a s->Q' a s):wpAny M A t Q' E s:=wpAny_mono h hQ fun _ _ x=>x
end L2
namespace L2
open PySem PySem.Spec PyProof.Rows
section
variable {X:Cx}
theorem bin {a b:Expr}{ta tb:TE} (ha:PE X a ta) (hb:PE X b tb) {Aa:List (Addr × Obj)}{s:Shared}{σ:St}{H:Hp}{R:V->V->Hp->Prop} (I:Inv X Aa σ H s) (h:ta σ H fun x H1=>tb σ H1 fun y H2=>R x y H2)
 {α:Type}{Q:α->Shared->Prop}{f:Value->Value->Sem α}
 (hf:∀ v u s2 x y H2,Inv X Aa σ H2 s2->RelV x v->RelV y u->R x y H2->wpAny (model X.prog X.w) X.A (f v u) Q X.xe s2) :
 wpAny (model X.prog X.w) X.A (eval a X.env) (fun v s₁=>wpAny (model X.prog X.w) X.A (eval b X.env) (fun u s₂=>wpAny (model X.prog X.w) X.A (f v u) Q X.xe s₂) X.xe s₁) X.xe s:=by
 refine thn (ha Aa s σ H _ I h) fun v s1 ⟨x,H1,I1,r1,q1⟩=>?_
 refine thn (hb Aa s1 σ H1 _ I1 q1) fun u s2 ⟨y,H2,I2,r2,q2⟩=>?_
 exact hf v u s2 x y H2 I2 r1 r2 q2
def tVar (i:Nat):TE:=fun σ H Q=>∃ v,σ[i]?=some (some v)/\Q v H
def tC (v:V):TE:=fun _ H Q=>Q v H
theorem A76 {i:Nat}{x:Str}{pos:Pos} (hN:X.N[i]?=some x) (hv:Vis X.env.scope x) (hd:(x==("__debug__":Str))=false:=by decide) (hcd:(x==("__classdict__":Str))=false:=by decide):PE X (.Name x pos) (tVar i):=by
 intro Aa s σ H Q I h
 obtain⟨v,e,h⟩:=h
 obtain⟨m,hn,hl⟩:=I.loc
 obtain⟨u,r,l⟩:=hl i x v hN e hv
 have fin:EP X Aa σ Q u s:=⟨v,H,I,r,h⟩
 rcases l with ⟨hk,hm⟩|⟨hk,c,hc,hcell⟩
 . exact wpAny_Name (wpAny_loadName_local I.ok.kind hk hn hm fin) hd
 . rcases hk with hk | hk
   . exact wpAny_Name (wpAny_loadName_cell I.ok.kind hk hc hcell fin) hd
   . exact wpAny_Name (wpAny_loadName_free I.ok.kind hk hc hcell fin hcd) hd
theorem Aj {i j pos}:PE X (.Constant (.int i) j pos) (tC (.int i)):=fun _ _ _ H _ I h=>wpAny_Constant_int ⟨.int i,H,I.tok _,⟨_,rfl⟩,h⟩
theorem E1 {b j pos}:PE X (.Constant (.bool b) j pos) (tC (.bl b)):=fun _ _ _ H _ I h=>Constant_bool ⟨.bl b,H,I,rfl,h⟩
theorem Wi {j pos}:PE X (.Constant .none j pos) (tC .non):=fun _ _ _ H _ I h=>Constant_none ⟨.non,H,I,rfl,h⟩
theorem A77 {x j pos}:PE X (.Constant (.str x) j pos) (tC (.str x)):=fun _ _ _ H _ I h=>Calls.Constant_str ⟨.str x,H,I.tok _,⟨_,rfl⟩,h⟩
def Gl (X:Cx) (x:Str):Prop:=X.env.kindOf x=some .globalImplicit
theorem Z0 {E:Value->Shared->Prop}{Aa:List (Addr × Obj)}{s:Shared}{σ:St}{H:Hp}{x:Str}{u:Value}{pos:Pos}{Q:Value->Shared->Prop} (I:Inv X Aa σ H s) (hg:Gl X x) (hm:X.mg x=some u) (h:Q u s)
 (hd:(x==("__debug__":Str))=false:=by decide):wpAny (model X.prog X.w) X.A (eval (.Name x pos) X.env) Q E s :=
 Calls.Name_function_global I.ok.kind hg (Calls.loadGlobal_global (by rw [I.ok.glob];exact I.mod.glob.keeps I.bk) hm h) hd
theorem N5 {E:Value->Shared->Prop}{Aa:List (Addr × Obj)}{s:Shared}{σ:St}{H:Hp}{x:Str}{u:Value}{pos:Pos}{Q:Value->Shared->Prop} (I:Inv X Aa σ H s) (hg:Gl X x) (hm:X.mg x=none) (hv:bootBuiltins x=some u) (h:Q u s)
 (hn:x≠"__name__":=by decide) (hd:(x==("__debug__":Str))=false:=by decide):wpAny (model X.prog X.w) X.A (eval (.Name x pos) X.env) Q E s:=by
 obtain⟨mb,h1,h2⟩:=I.mod.blt
 exact Calls.Name_function_global I.ok.kind hg (Calls.loadGlobal_builtin (by rw [I.ok.glob];exact I.mod.glob.keeps I.bk) hm (by rw [I.ok.blt];exact h1.keeps I.bk) ((h2 x hn).trans hv) h) hd
theorem Ue {x:Str}{v:V}{u:Value}{pos:Pos} (hg:Gl X x) (hm:X.mg x=some u) (r:RelV v u) (hd:(x==("__debug__":Str))=false:=by decide):PE X (.Name x pos) (tC v) :=
 fun _ _ _ H _ I h=>Z0 I hg hm ⟨v,H,I,r,h⟩ hd
theorem Fp {x:Str}{v:V}{u:Value}{pos:Pos} (hg:Gl X x) (hm:X.mg x=none) (hv:bootBuiltins x=some u) (r:RelV v u) (hn:x≠"__name__":=by decide) (hd:(x==("__debug__":Str))=false:=by decide):PE X (.Name x pos) (tC v) :=
 fun _ _ _ H _ I h=>N5 I hg hm hv ⟨v,H,I,r,h⟩ hn hd
variable {a b:Expr}{ta tb:TE}{pos:Pos}
def PC (X:Cx) (op:CmpOp) (a b:Expr) (t:TE):Prop :=
 ∀ (Aa:List (Addr × Obj)) (s:Shared) (σ:St) (H:Hp) (Q:VK),Inv X Aa σ H s->t σ H Q →
   wpAny (model X.prog X.w) X.A (eval a X.env) (fun v s₁=>wpAny (model X.prog X.w) X.A (eval b X.env) (fun u s₂=>wpAny (model X.prog X.w) X.A (compareOp op v u) (EP X Aa σ Q) X.xe s₂) X.xe s₁) X.xe s
theorem At1 (b:Expr) {op:CmpOp} (h:op≠.In) (h2:op≠.NotIn):behindInMarks op b=false:=by
 have e1:(op==CmpOp.In)=false:=by cases op<;>first | rfl | exact absurd rfl h
 have e2:(op==CmpOp.NotIn)=false:=by cases op<;>first | rfl | exact absurd rfl h2
 cases b<;>simp [behindInMarks,e1,e2]
def tB (t:TE):TT:=fun σ H Q=>t σ H fun x H1=>∃ c,x=.bl c/\Q c H1
theorem Bf8 {op:CmpOp}{t:TE} (h:PC X op a b t) (h1:behindInMarks op b=false:=by first | exact At1 _ (by decide) (by decide) | rfl):PT X (.Compare a [op] [b] pos) (tB t):=by
 intro Aa s σ H Q I hw
 refine wpAny_isTrue_Compare1 (thn (h Aa s σ H _ I hw) fun v s1 h1=>thn h1 fun u s2 h2=>thn h2 fun c s3 ⟨x,H1,I1,r1,q1⟩=>?_) h1
 obtain⟨d,rfl,q⟩:=q1
 cases r1
 exact wpAny_truthy_bool ⟨H1,I1,q⟩
theorem De {e:Expr}{t:TE} (h:PE X e t) (he:∀ whole,isTrue e X.env whole=(do let v ←whole;standAt e.pos;holding [v] (truthy v)):=by intro _;rfl):PT X e (tB t):=by
 intro Aa s σ H Q I hw
 refine isTrue_plain (thn (h Aa s σ H _ I hw) fun v s1 ⟨x,H1,I1,r1,q1⟩=>?_) (he _)
 obtain⟨d,rfl,q⟩:=q1
 cases r1
 exact wpAny_truthy_bool ⟨H1,I1,q⟩
variable {tA tB':TT}{rest:List Expr}
def tAnd (t u:TT):TT:=fun σ H Q=>t σ H fun c H1=>if c=true then u σ H1 Q else Q false H1
def tOr (t u:TT):TT:=fun σ H Q=>t σ H fun c H1=>if c=true then Q true H1 else u σ H1 Q
def tNot (t:TT):TT:=fun σ H Q=>t σ H fun c H1=>Q (!c) H1
theorem T5 (ha:PT X a tA):PW X (.BoolOp .And [a] pos) tA:=by
 intro wh Aa s σ H Q I h
 refine isTrue_and (thn (ha Aa s σ H Q I h) fun c s1 e=>?_)
 cases c with
 | true=>exact isTrue_and_nil e
 | false=>exact e
theorem Ih (ha:PT X a tA):PW X (.BoolOp .Or [a] pos) tA:=by
 intro wh Aa s σ H Q I h
 refine isTrue_or (thn (ha Aa s σ H Q I h) fun c s1 e=>?_)
 cases c with
 | false=>exact isTrue_or_nil e
 | true=>exact e
theorem l7 (ha:PT X a tA) (hb:PW X (.BoolOp .And (b::rest) pos) tB'):PW X (.BoolOp .And (a::b::rest) pos) (tAnd tA tB'):=by
 intro wh Aa s σ H Q I h
 refine isTrue_and (thn (ha Aa s σ H _ I h) fun c s1 ⟨H1,I1,q1⟩=>?_)
 cases c with
 | true=>exact hb wh Aa s1 σ H1 Q I1 q1
 | false=>exact ⟨H1,I1,q1⟩
theorem Lh (ha:PT X a tA) (hb:PW X (.BoolOp .Or (b::rest) pos) tB'):PW X (.BoolOp .Or (a::b::rest) pos) (tOr tA tB'):=by
 intro wh Aa s σ H Q I h
 refine isTrue_or (thn (ha Aa s σ H _ I h) fun c s1 ⟨H1,I1,q1⟩=>?_)
 cases c with
 | true=>exact ⟨H1,I1,q1⟩
 | false=>exact hb wh Aa s1 σ H1 Q I1 q1
theorem Df (ha:PT X a tA):PT X (.UnaryOp .Not a pos) (tNot tA):=by
 intro Aa s σ H Q I h
 exact isTrue_not (ha Aa s σ H (fun c H1=>Q (!c) H1) I h)
def Bd5 (ta tb:TE):TE:=fun σ H Q=>ta σ H fun x H1=>∃ c,x=.bl c/\if c=true then tb σ H1 Q else Q (.bl false) H1
def tOrV (ta tb:TE):TE:=fun σ H Q=>ta σ H fun x H1=>∃ c,x=.bl c/\if c=true then Q (.bl true) H1 else tb σ H1 Q
def Bd0 (ta:TE):TE:=fun σ H Q=>ta σ H fun x H1=>∃ c,x=.bl c/\Q (.bl (!c)) H1
theorem N2 {op}{t:TE} (h:PE X a t):PE X (.BoolOp op [a] pos) t:=fun Aa s σ H Q I hw=>BoolOp_one (h Aa s σ H Q I hw)
theorem N3 (ha:PE X a ta) (hb:PE X (.BoolOp .And (b::rest) pos) tb):PE X (.BoolOp .And (a::b::rest) pos) (Bd5 ta tb):=by
 intro Aa s σ H Q I h
 refine BoolOp_and (thn (ha Aa s σ H _ I h) fun v s1 ⟨x,H1,I1,r1,q1⟩=>?_)
 obtain⟨c,rfl,q1⟩:=q1
 cases r1
 refine wpAny_truthy_bool ?_
 cases c with
 | true=>exact hb Aa s1 σ H1 Q I1 q1
 | false=>exact ⟨.bl false,H1,I1,rfl,q1⟩
theorem Bd8 (ha:PE X a ta) (hb:PE X (.BoolOp .Or (b::rest) pos) tb):PE X (.BoolOp .Or (a::b::rest) pos) (tOrV ta tb):=by
 intro Aa s σ H Q I h
 refine BoolOp_or (thn (ha Aa s σ H _ I h) fun v s1 ⟨x,H1,I1,r1,q1⟩=>?_)
 obtain⟨c,rfl,q1⟩:=q1
 cases r1
 refine wpAny_truthy_bool ?_
 cases c with
 | false=>exact hb Aa s1 σ H1 Q I1 q1
 | true=>exact ⟨.bl true,H1,I1,rfl,q1⟩
theorem Aw2 (ha:PE X a ta):PE X (.UnaryOp .Not a pos) (Bd0 ta):=by
 intro Aa s σ H Q I h
 refine UnaryOp_ (thn (ha Aa s σ H _ I h) fun v s1 ⟨x,H1,I1,r1,q1⟩=>?_)
 obtain⟨c,rfl,q1⟩:=q1
 cases r1
 exact not_of (wpAny_truthy_bool ⟨.bl (!c),H1,I1,rfl,q1⟩)
def tIf (t:TT) (ta tb:TE):TE:=fun σ H Q=>t σ H fun c H1=>if c=true then ta σ H1 Q else tb σ H1 Q
theorem Ar9 {c:Expr} (hc:PT X c tA) (ha:PE X a ta) (hb:PE X b tb):PE X (.IfExp c a b pos) (tIf tA ta tb):=by
 intro Aa s σ H Q I h
 refine wpAny_IfExp (thn (hc Aa s σ H _ I h) fun d s1 ⟨H1,I1,q1⟩=>?_)
 cases d with
 | true=>exact ha Aa s1 σ H1 Q I1 q1
 | false=>exact hb Aa s1 σ H1 Q I1 q1
end
end L2
namespace L2
open PySem PySem.Spec PyProof.Rows
def SqL (K:W.Frag) (H:Hp) (a:Addr) (xs:List V):Prop :=
 Rd H a (.lst xs) ∨
  ∃ (o:Obj) (its:Array Value) (n:Nat),K.lookup a=some o/\o.cls=.type "list"/\o.dict=none/\o.data=.seq its n/\its.size<=sizeLine/\Vals xs its.toList
def SqT (K:W.Frag) (H:Hp) (a:Addr) (xs:List V):Prop :=
 Rd H a (.tup xs) ∨
  ∃ (o:Obj) (its:Array Value) (n:Nat),K.lookup a=some o/\o.cls=.type "tuple"/\o.dict=none/\o.data=.seq its n/\its.size<=sizeLine/\Vals xs its.toList
def absV:Value->Option V
 | .none=>some .non
 | .bool b=>some (.bl b)
 | .int i _=>some (.int i)
 | .str x _=>some (.str x)
 | .bytes b _=>some (.byt b)
 | .float b _=>some (.flt b)
 | .ref a=>some (.ref a)
 | .type n=>some (.ty n)
 | _=>none
theorem RelV.abs {x:V}{u:Value} (r:RelV x u):absV u=some x:=by
 cases x with
 | non=>cases r;rfl
 | bl _=>cases r;rfl
 | int _=>obtain⟨t,rfl⟩:=r;rfl
 | str _=>obtain⟨t,rfl⟩:=r;rfl
 | byt _=>obtain⟨t,rfl⟩:=r;rfl
 | flt _=>obtain⟨t,rfl⟩:=r;rfl
 | ref _=>cases r;rfl
 | ty _=>cases r;rfl
theorem RelV.inj {x y:V}{u:Value} (r:RelV x u) (q:RelV y u):x=y:=Option.some.inj (r.abs.symm.trans q.abs)
theorem Vals.inj:∀{xs ys:List V}{us:List Value},Vals xs us->Vals ys us->xs=ys
 | _,_,_,.nil,.nil=>rfl
 | _,_,_,.cons r t,.cons r' t'=>by rw [r.inj r',Vals.inj t t']
section
variable {X:Cx}{Aa:List (Addr × Obj)}{σ:St}{H:Hp}{s:Shared}{a:Addr}{xs ys:List V}
theorem SqL.of {K:W.Frag} (h:H a=some (.lst xs)):SqL K H a xs:=.inl (.inl h)
theorem SqT.of {K:W.Frag} (h:H a=some (.tup xs)):SqT K H a xs:=.inl (.inl h)
theorem Inv.list (I:Inv X Aa σ H s) (h:SqL X.K H a xs):∃ its:List Value,Vals xs its/\PlainL s.heap a its.toArray/\xs.length<=sizeLine:=by
 rcases h with h|⟨o,its,n,hk,hc,hd,hs,hz,r⟩
 . obtain⟨z,its,n,r,e⟩:=h.ok I.hok
   exact ⟨its,r,⟨_,n,e,rfl,rfl,rfl⟩,z⟩
 . refine⟨its.toList,r,⟨o,n,I.kIn a o hk,hc,hd,by simpa using hs⟩,?_⟩
   have e:=r.length
   simp only [Array.length_toList] at e
   omega
theorem Inv.tuple (I:Inv X Aa σ H s) (h:SqT X.K H a xs):∃ its:List Value,Vals xs its/\IsTup s.heap a its.toArray/\xs.length<=sizeLine:=by
 rcases h with h|⟨o,its,n,hk,hc,_,hs,hz,r⟩
 . obtain⟨z,its,r,p⟩:=h.ok I.hok
   exact ⟨its,r,p.tup,z⟩
 . refine⟨its.toList,r,⟨o,I.kIn a o hk,hc,n,by simpa using hs⟩,?_⟩
   have e:=r.length
   simp only [Array.length_toList] at e
   omega
theorem Inv.list_inj (I:Inv X Aa σ H s) (h:SqL X.K H a xs) (h':SqL X.K H a ys):xs=ys:=by
 obtain⟨its,r,⟨o,n,e,_,_,d⟩,_⟩:=I.list h
 obtain⟨its',r',⟨o',n',e',_,_,d'⟩,_⟩:=I.list h'
 rw [e] at e';cases e'
 rw [d] at d'
 injection d' with d1 _
 have:its=its':=by simpa using congrArg Array.toList d1
 subst this
 exact r.inj r'
theorem Inv.tuple_inj (I:Inv X Aa σ H s) (h:SqT X.K H a xs) (h':SqT X.K H a ys):xs=ys:=by
 obtain⟨its,r,⟨o,e,_,n,d⟩,_⟩:=I.tuple h
 obtain⟨its',r',⟨o',e',_,n',d'⟩,_⟩:=I.tuple h'
 rw [e] at e';cases e'
 rw [d] at d'
 injection d' with d1 _
 have:its=its':=by simpa using congrArg Array.toList d1
 subst this
 exact r.inj r'
end
abbrev Cx.wish (X:Cx) (E:Value->Shared->Prop):Cx:={ X with xe:=E }
abbrev Cx.nox (X:Cx):Cx:=X.wish fun _ _=>False
theorem Cx.Ok.wish {X:Cx} (ok:X.Ok) (E:Value->Shared->Prop):(X.wish E).Ok :=
 ⟨ok.mod,ok.kind,ok.glob,ok.blt,ok.above,ok.inj,ok.has,ok.cab,ok.hd,ok.frames,ok.stk,ok.exf,ok.bs,ok.bsz,ok.noex,ok.exfs,ok.funs,ok.frf⟩
theorem Cx.Ok.unwish {X:Cx}{E:Value->Shared->Prop} (ok:(X.wish E).Ok):X.Ok :=
 ⟨ok.mod,ok.kind,ok.glob,ok.blt,ok.above,ok.inj,ok.has,ok.cab,ok.hd,ok.frames,ok.stk,ok.exf,ok.bs,ok.bsz,ok.noex,ok.exfs,ok.funs,ok.frf⟩
section
variable {X:Cx}{Aa:List (Addr × Obj)}{σ:St}{H:Hp}{s:Shared}{E:Value->Shared->Prop}
theorem Inv.wish (I:Inv X Aa σ H s) (E:Value->Shared->Prop):Inv (X.wish E) Aa σ H s:=⟨I.ok.wish E,I.os,I.bare,I.base,I.loc,I.cell,I.free,I.freeC,I.pin,I.hok,I.len⟩
theorem Inv.unwish (I:Inv (X.wish E) Aa σ H s):Inv X Aa σ H s:=⟨I.ok.unwish,I.os,I.bare,I.base,I.loc,I.cell,I.free,I.freeC,I.pin,I.hok,I.len⟩
theorem SP.unwish {D:Ends}{f:Flow}{s':Shared} (h:SP (X.wish E) Aa D f s'):SP X Aa D f s':=by
 cases f with
 | next=>obtain⟨σ',H',I,q⟩:=h;exact ⟨σ',H',I.unwish,q⟩
 | brk=>obtain⟨σ',H',I,q⟩:=h;exact ⟨σ',H',I.unwish,q⟩
 | cont=>obtain⟨σ',H',I,q⟩:=h;exact ⟨σ',H',I.unwish,q⟩
 | ret u=>obtain⟨v,σ',H',I,r,q⟩:=h;exact ⟨v,σ',H',I.unwish,r,q⟩
theorem PSs.nox {st:List Stmt}{t:TS} (h:PSs X.nox st t):PSs X st t:=fun Aa s σ H D I hw =>
 wpAny_mono (h Aa s σ H D (I.wish _) hw) (fun _ _ q=>q.unwish) fun _ _ z=>False.elim z
end
section
variable {X:Cx}{st:Stmt}{rest:List Stmt}{t u:TS}{e:Expr}{te:TE}{pos:Pos}
def Bd1:TS:=fun D σ H=>D.nx σ H
def tSeq (t u:TS):TS:=fun D σ H=>t { D with nx:=u D } σ H
theorem Aw:PSs X [] Bd1:=fun _ _ σ H _ I h=>wpAny_execs_nil ⟨σ,H,I,h⟩
theorem Af (h1:PS X st t) (h2:PSs X rest u):PSs X (st::rest) (tSeq t u):=by
 intro Aa s σ H D I h
 refine wpAny_execs_cons (thn (h1 Aa s σ H { D with nx:=u D } I h) fun f s1 q=>?_)
 cases f with
 | next =>
   obtain⟨σ',H',I',q⟩:=q
   exact h2 Aa s1 σ' H' D I' q
 | ret v=>exact q
 | brk=>exact q
 | cont=>exact q
theorem Ai (h1:PS X st t):PSs X [st] t:=by
 intro Aa s σ H D I h
 refine wpAny_execs_cons (thn (h1 Aa s σ H D I h) fun f s1 q=>?_)
 cases f with
 | next=>exact wpAny_execs_nil q
 | ret v=>exact q
 | brk=>exact q
 | cont=>exact q
theorem Inv.quiet {Aa:List (Addr × Obj)}{σ:St}{H:Hp}{s:Shared} (I:Inv X Aa σ H s):interactive X.env=false:=by simp [interactive,I.ok.kind]
def Bd2 (te:TE):TS:=fun D σ H=>te σ H fun _ H1=>D.nx σ H1
theorem Ck (he:PE X e te) (hs:swapsWith e none pos.line X.env=pure false:=by rfl):PS X (.Expr e pos) (Bd2 te):=by
 intro Aa s σ H D I h
 exact wpAny_Expr_any (thn (he Aa s σ H _ I h) fun v s1 ⟨x,H1,I1,r1,q1⟩=>⟨σ,H1,I1,q1⟩) I.quiet hs
def tRet (te:TE):TS:=fun D σ H=>te σ H D.rt
theorem At (he:PE X e te):PS X (.Return (some e) pos) (tRet te):=by
 intro Aa s σ H D I h
 exact wpAny_Return_some (thn (he Aa s σ H _ I h) fun v s1 ⟨x,H1,I1,r1,q1⟩=>⟨x,σ,H1,I1,r1,q1⟩)
def tIfS (c:TT) (t u:TS):TS:=fun D σ H=>c σ H fun b H1=>if b=true then t D σ H1 else u D σ H1
theorem Bh {c:Expr}{a b:List Stmt}{tc:TT} (hc:PT X c tc) (ha:PSs X a t) (hb:PSs X b u):PS X (.If c a b pos) (tIfS tc t u):=by
 intro Aa s σ H D I h
 refine wpAny_If (thn (hc Aa s σ H _ I h) fun d s1 ⟨H1,I1,q1⟩=>?_)
 cases d with
 | true=>exact ha Aa s1 σ H1 D I1 q1
 | false=>exact hb Aa s1 σ H1 D I1 q1
def A54:TS:=fun _ _ _=>False
theorem Li:PS X st A54:=fun _ _ _ _ _ _ h=>h.elim
end
abbrev TG:=V->St->Hp->(St->Hp->Prop)->Prop
abbrev TGs:=List V->St->Hp->(St->Hp->Prop)->Prop
def PG (X:Cx) (target:Expr) (t:TG):Prop :=
 ∀ (Aa:List (Addr × Obj)) (s:Shared) (σ:St) (H:Hp) (v:V) (u:Value) (Q:St->Hp->Prop),Inv X Aa σ H s->RelV v u->t v σ H Q →
   wpAny (model X.prog X.w) X.A (assign target X.env u) (fun _ s'=>∃ σ' H',Inv X Aa σ' H' s'/\Q σ' H') X.xe s
def PGs (X:Cx) (ts:List Expr) (t:TGs):Prop :=
 ∀ (Aa:List (Addr × Obj)) (s:Shared) (σ:St) (H:Hp) (vs:List V) (us:List Value) (Q:St->Hp->Prop),Inv X Aa σ H s->Vals vs us->t vs σ H Q →
   wpAny (model X.prog X.w) X.A (assignInOrder ((assignEach ts X.env).map (·.2)) us) (fun _ s'=>∃ σ' H',Inv X Aa σ' H' s'/\Q σ' H') X.xe s
section
variable {X:Cx}{pos:Pos}
def Al6 (i:Nat):TG:=fun v σ H Q=>Q (σ.set i (some v)) H
theorem Au {i:Nat}{x:Str} (hN:X.N.Nodup) (hi:X.N[i]?=some x) (hx:Loc X.env.scope x) (hf:X.fn x=true\/X.env.scope.names.lookup x=some .local:=by first | exact .inl rfl | exact .inr rfl | assumption):PG X (.Name x pos) (Al6 i):=by
 intro Aa s σ H v u Q I r h
 exact wpAny_assign_Name (j8 I hN hi hx r (fun s' I'=>⟨_,H,I',h⟩) hf)
def gNil:TGs:=fun vs σ H Q=>vs=[]/\Q σ H
def Bf3 (t:TG) (u:TGs):TGs:=fun vs σ H Q=>∃ v r,vs=v::r/\t v σ H fun σ' H'=>u r σ' H' Q
theorem Ii:PGs X [] gNil:=by
 intro Aa s σ H vs us Q I r h
 obtain⟨e,h⟩:=h
 subst e
 cases r
 exact assignInOrder_nil ⟨σ,H,I,h⟩
theorem Bu {e:Expr}{es:List Expr}{t:TG}{u:TGs} (h1:PG X e t) (h2:PGs X es u)
 (hs:(assignEach (e::es) X.env).map (·.2)=assign e X.env::(assignEach es X.env).map (·.2):=by rfl):PGs X (e::es) (Bf3 t u):=by
 intro Aa s σ H vs us Q I r h
 obtain⟨v,vr,e1,h⟩:=h
 subst e1
 cases r with
 | cons r rr =>
   rw [hs]
   refine assignInOrder_cons (thn (h1 Aa s σ H _ _ _ I r h) fun _ s1 ⟨σ1,H1,I1,q1⟩=>?_)
   exact h2 Aa s1 σ1 H1 _ _ Q I1 rr q1
def gTup (K:W.Frag) (n:Nat) (t:TGs):TG:=fun v σ H Q=>∃ a xs,v=.ref a/\SqT K H a xs/\xs.length=n/\t xs σ H Q
theorem A75 {es:List Expr}{k:Nat}{t:TGs}{n:Nat} (hc:X.calm=true) (h:PGs X es t)
 (hn:(assignEach es X.env).length=n:=by rfl) (hst:(assignEach es X.env).findIdx? (·.1)=none:=by rfl):PG X (.Tuple es k pos) (gTup X.K n t):=by
 intro Aa s σ H v u Q I r hw
 obtain⟨a,xs,e1,hq,hl,hw⟩:=hw
 subst e1
 cases r
 obtain⟨its,rv,ht,hz⟩:=I.tuple hq
 refine assign_Tuple_tuple (I.ok.hd hc) ht (by simp [hn,←hl,rv.length]) hst fun h' hx=>?_
 have I1:Inv X Aa σ H { s with heap:=h' }:=I.kept (t':=s.toks) fun b o e=>hx b o (Nat.ne_of_lt (Heap.lt_size e)) e
 exact h Aa _ σ H xs _ Q I1 (by simpa using rv) hw
def tAsg (te:TE) (g:TG):TS:=fun D σ H=>te σ H fun x H1=>g x σ H1 D.nx
theorem Ar {i:Nat}{x:Str}{e:Expr}{te:TE}{pos':Pos} (hN:X.N.Nodup) (hi:X.N[i]?=some x) (hx:Loc X.env.scope x) (he:PE X e te) (hs:swapsWith e (some (.Name x pos')) pos.line X.env=pure false:=by rfl) (hf:X.fn x=true\/X.env.scope.names.lookup x=some .local:=by first | exact .inl rfl | exact .inr rfl | assumption) :
 PS X (.Assign [.Name x pos'] e pos) (tAsg te (Al6 i)):=by
 intro Aa s σ H D I h
 refine wpAny_Assign_Name (thn (he Aa s σ H _ I h) fun v s1 ⟨y,H1,I1,r1,q1⟩=>?_) hs
 exact j8 I1 hN hi hx r1 (fun s2 I2=>⟨_,H1,I2,q1⟩) hf
end
section
variable {X:Cx}{pos:Pos}
def A53 (c:TT) (tb:TS):TS:=fun D σ H=>∃ W:Nat->St->Hp->Prop,(∃ m,W m σ H)/\∀ m σ H,W m σ H →
 c σ H fun b H1=>if b=true then ∃ N:St->Hp->Prop,(∀ σ' H',N σ' H'->∃ m',m'<m/\W m' σ' H')/\tb { D with nx:=N,ct:=N,bk:=D.nx } σ H1 else D.nx σ H1
theorem l8 {c:Expr}{body:List Stmt}{tc:TT}{tb:TS} (hp:PassesOwn (model X.prog X.w) X.A X.env X.xe) (hc:PT X c tc) (hb:PSs X body tb):PS X (.While c body [] pos) (A53 tc tb):=by
 intro Aa s σ H D I h
 obtain⟨W,⟨m0,w0⟩,turn⟩:=h
 refine wpAny_While (codeAny_whileLoop (fun n s'=>∃ σ' H',Inv X Aa σ' H' s'/\W n σ' H') ?_ m0 ⟨σ,H,I,w0⟩)
 rintro n s1 ⟨σ1,H1,I1,w1⟩
 refine wpAny_passesOwn hp (thn (hc Aa s1 σ1 H1 _ I1 (turn n σ1 H1 w1)) fun b s2 ⟨H2,I2,q2⟩=>?_)
 cases b with
 | true =>
   obtain⟨N,hN,q2⟩:=q2
   rw [if_pos rfl]
   refine wpAny_passesOwn hp (thn (hb Aa s2 σ1 H2 _ I2 q2) fun f s3 q3=>?_)
   cases f with
   | next =>
     obtain⟨σ3,H3,I3,n3⟩:=q3
     obtain⟨m',hm,w3⟩:=hN σ3 H3 n3
     exact ⟨m',hm,σ3,H3,I3,w3⟩
   | cont =>
     obtain⟨σ3,H3,I3,n3⟩:=q3
     obtain⟨m',hm,w3⟩:=hN σ3 H3 n3
     exact ⟨m',hm,σ3,H3,I3,w3⟩
   | brk=>exact q3
   | ret v=>exact q3
 | false =>
   rw [if_neg Bool.false_ne_true]
   exact wpAny_execs_nil ⟨σ1,H2,I2,q2⟩
end
structure It where
 go:Nat->Hp->Prop
 yld:Nat->Hp->V->Hp->Prop
 stop:Nat->Hp->Prop
def FpOk (X:Cx) (Aa:List (Addr × Obj)) (H:Hp) (b:Addr):Prop :=
 H b=none/\b≠X.env.locals/\b ∉ X.fs/\(b∈X.ex\/X.s₀.heap.objs.size<=b)/\(∀ x c,X.env.cells.lookup x=some c->c≠b)/\∀ p∈X.pn++Aa,p.1≠b
theorem Inv.fpOk {X:Cx}{Aa:List (Addr × Obj)}{σ:St}{H H':Hp}{s:Shared}{b:Addr} (I:Inv X Aa σ H s) (hb:s.heap.objs.size<=b) (hn:H' b=none):FpOk X Aa H' b:=by
 refine⟨hn,Nat.ne_of_gt (Nat.lt_of_lt_of_le I.lt hb),I.nofs hb,.inr (Nat.le_trans I.sz hb),fun x c e z=>?_,fun p hp z=>?_⟩
 . obtain⟨v,q⟩:=I.cell x c e
   exact absurd (Nat.lt_of_lt_of_le q.lt (by rw [z];exact hb)) (Nat.lt_irrefl _)
 . exact absurd (Nat.lt_of_lt_of_le (Heap.lt_size (I.pin p hp).1) (by rw [z];exact hb)) (Nat.lt_irrefl _)
structure Turn (P:Program) (w:World) (K:W.Frag) (tg:Expr) (J:It) (fp:List Addr) (it:Addr) (tn:Nat->Heap->Prop):Prop where
 mem:it∈fp
 obj:∀ i h,tn i h->∀ b∈fp,∃ o,h.get? b=some o/\∀ v,o.data≠.cell v
 keep:∀ i h h',tn i h->(∀ b∈fp,∀ o,h.get? b=some o->h'.get? b=some o)->tn i h'
 item:∀ (X:Cx),X.prog=P->X.w=w->X.K=K->X.calm=true->∀ (i:Nat) (Aa:List (Addr × Obj)) (s:Shared) (σ:St) (H:Hp) (E:Value->Shared->Prop),Inv X Aa σ H s->(∀ b∈fp,FpOk X Aa H b)->tn i s.heap->J.go i H →
  wpAny (model P w) X.A (pyNext (.ref it)) (fun r s1=>∃ u,r=some u ∧
   wpAny (model P w) X.A (letOwnedTupleGo tg (.ref it) u) (fun _ s2=>∃ x H',Inv X Aa σ H' s2/\RelV x u/\J.yld i H x H'/\tn (i+1) s2.heap/\∀ b∈fp,H' b=none) E s1) E s
 done:∀ (X:Cx),X.prog=P->X.w=w->X.K=K->X.calm=true->∀ (i:Nat) (Aa:List (Addr × Obj)) (s:Shared) (σ:St) (H:Hp) (E:Value->Shared->Prop),Inv X Aa σ H s->(∀ b∈fp,FpOk X Aa H b)->tn i s.heap->J.stop i H →
  wpAny (model P w) X.A (pyNext (.ref it)) (fun r s1=>r=none/\Inv X Aa σ H s1) E s
 self:∀ (A:Around) (i:Nat) (s:Shared) (Q:Value->Shared->Prop) (E:Value->Shared->Prop),tn i s.heap->Q (.ref it) s->wpAny (model P w) A (pyIter (.ref it)) Q E s
abbrev TI:=St->Hp->(It->Hp->Prop)->Prop
def PIE (X:Cx) (Aa:List (Addr × Obj)) (σ:St) (tg:Expr) (R:It->Hp->Prop) (itv:Value) (s2:Shared):Prop :=
 ∃ (it:Addr) (fp:List Addr) (tn:Nat->Heap->Prop) (J:It) (H':Hp),itv=.ref it/\Inv X Aa σ H' s2/\Turn X.prog X.w X.K tg J fp it tn/\tn 0 s2.heap/\(∀ b∈fp,FpOk X Aa H' b)/\R J H'
def PI (X:Cx) (tg iter:Expr) (wi:TI):Prop :=
 ∀ (Aa:List (Addr × Obj)) (s:Shared) (σ:St) (H:Hp) (R:It->Hp->Prop),Inv X Aa σ H s->wi σ H R →
   wpAny (model X.prog X.w) X.A (eval iter X.env) (fun v s1=>wpAny (model X.prog X.w) X.A (pyIter v) (PIE X Aa σ tg R) X.xe s1) X.xe s
theorem Ac1 {M:Model}{A:Around}{E:Value->Shared->Prop}{s:Shared}{tg:Expr}{it:Addr}{u:Value}{o:Obj}{n:String}{vs:Array Value}{Q:Unit->Shared->Prop} (ho:s.heap.get? it=some o) (hc:o.cls=.type n) (hd:o.data=.fields vs)
 (hn:["enumerate","zip","dict_itemiterator","dict_reverseitemiterator","odict_iterator","itertools.zip_longest","itertools.pairwise"].contains n=false) (hQ:Q () s):wpAny M A (letOwnedTupleGo tg (.ref it) u) Q E s:=by
 unfold letOwnedTupleGo
 cases tg<;>first
  | exact wpAny_pure hQ
  | (cases u<;>first
      | exact wpAny_pure hQ
      | (refine wpAny_bind (wpAny_load ho ?_)
         rw [hc,hd]
         show wpAny M A (if (["enumerate","zip","dict_itemiterator","dict_reverseitemiterator","odict_iterator","itertools.zip_longest","itertools.pairwise"].contains n&&vs[0]?==some (rawInt _))=true then _ else _) Q E s
         rw [if_neg (by intro h;rw [hn,Bool.false_and] at h;cases h)]
         exact wpAny_pure hQ))
def Itl (K:W.Frag) (a:Addr):It :=
 ⟨fun i H=>∃ xs x,SqL K H a xs/\xs[i]?=some x,fun i H x H'=>H'=H/\∀ xs,SqL K H a xs->xs[i]?=some x,fun i H=>∃ xs,SqL K H a xs/\xs.length<=i⟩
def Itt (K:W.Frag) (a:Addr):It :=
 ⟨fun i H=>∃ xs x,SqT K H a xs/\xs[i]?=some x,fun i H x H'=>H'=H/\∀ xs,SqT K H a xs->xs[i]?=some x,fun i H=>∃ xs,SqT K H a xs/\xs.length<=i⟩
def Itr (lo:Int) (n:Nat):It:=⟨fun i _=>i<n,fun i H x H'=>H'=H/\x=.int (lo+i),fun i _=>n<=i⟩
theorem Af0 {P:Program}{w:World}{K:W.Frag}{tg:Expr} (a it:Addr):Turn P w K tg (Itl K a) [it] it (fun i h=>h.IsListIter it a i) where
 mem:=by simp
 obj:=fun i h st b hb=>by
  have e:b=it:=by simpa using hb
  subst e
  obtain⟨o,e,c,d⟩:=st
  exact ⟨o,e,fun v z=>by rw [d] at z;cases z⟩
 keep:=fun i h h' st k=>st.at fun o e=>k it (by simp) o e
 item:=by
  intro X hP hw hK hc i Aa s σ H E I hf st hg
  subst hP hw hK
  obtain⟨xs,x,hq,hx⟩:=hg
  obtain⟨its,rv,p,hz⟩:=I.list hq
  obtain⟨u,hu,ru⟩:=rv.get hx
  obtain⟨f0,f1,f2,f3,f4,f5⟩:=hf it (by simp)
  refine wpAny_pyNext_list_item st p.isList (x:=u) (by simpa using hu) fun h' st' sb=>?_
  have I1:Inv X Aa σ H { s with heap:=h' }:=I.turned (t':=s.toks) (fun b o hb e=>(sb.2 b hb).trans e) f0 f1 f3 f4 f5
  obtain⟨o,e,c,d⟩:=id st'
  exact ⟨u,rfl,Ac1 (s:={ s with heap:=h' }) e c d (by decide) ⟨x,H,I1,ru,⟨rfl,fun ys hy=>by rw [I.list_inj hy hq];exact hx⟩,st',fun b hb=>(hf b hb).1⟩⟩
 done:=by
  intro X hP hw hK hc i Aa s σ H E I hf st hg
  subst hP hw hK
  obtain⟨xs,hq,hx⟩:=hg
  obtain⟨its,rv,p,hz⟩:=I.list hq
  obtain⟨f0,f1,f2,f3,f4,f5⟩:=hf it (by simp)
  have hl:=rv.length
  exact wpAny_pyNext_list_end (I.ok.hd hc) st p.isList (by simp;omega) fun h' eb=>⟨rfl,I.turned (t':=s.toks) (fun b o hb e=>eb b o hb e) f0 f1 f3 f4 f5⟩
 self:=fun _ _ _ _ _ st h=>wpAny_pyIter_listiter st h
theorem u6 {P:Program}{w:World}{K:W.Frag}{tg:Expr} (a it:Addr):Turn P w K tg (Itt K a) [it] it (fun i h=>h.IsTupleIter it a i) where
 mem:=by simp
 obj:=fun i h st b hb=>by
  have e:b=it:=by simpa using hb
  subst e
  obtain⟨o,e,c,d⟩:=st
  exact ⟨o,e,fun v z=>by rw [d] at z;cases z⟩
 keep:=fun i h h' st k=>st.at fun o e=>k it (by simp) o e
 item:=by
  intro X hP hw hK hc i Aa s σ H E I hf st hg
  subst hP hw hK
  obtain⟨xs,x,hq,hx⟩:=hg
  obtain⟨its,rv,p,hz⟩:=I.tuple hq
  obtain⟨u,hu,ru⟩:=rv.get hx
  obtain⟨f0,f1,f2,f3,f4,f5⟩:=hf it (by simp)
  refine wpAny_pyNext_tuple_item st (show s.heap.IsTuple a its.toArray from p) (x:=u) (by simpa using hu) fun h' st' sb=>?_
  have I1:Inv X Aa σ H { s with heap:=h' }:=I.turned (t':=s.toks) (fun b o hb e=>(sb.2 b hb).trans e) f0 f1 f3 f4 f5
  obtain⟨o,e,c,d⟩:=id st'
  exact ⟨u,rfl,Ac1 (s:={ s with heap:=h' }) e c d (by decide) ⟨x,H,I1,ru,⟨rfl,fun ys hy=>by rw [I.tuple_inj hy hq];exact hx⟩,st',fun b hb=>(hf b hb).1⟩⟩
 done:=by
  intro X hP hw hK hc i Aa s σ H E I hf st hg
  subst hP hw hK
  obtain⟨xs,hq,hx⟩:=hg
  obtain⟨its,rv,p,hz⟩:=I.tuple hq
  obtain⟨f0,f1,f2,f3,f4,f5⟩:=hf it (by simp)
  have hl:=rv.length
  exact wpAny_pyNext_tuple_end (I.ok.hd hc) st (show s.heap.IsTuple a its.toArray from p) (by simp;omega) fun h' eb=>⟨rfl,I.turned (t':=s.toks) (fun b o hb e=>eb b o hb e) f0 f1 f3 f4 f5⟩
 self:=fun _ _ _ _ _ st h=>wpAny_pyIter_tupleiter st h
theorem u7 {P:Program}{w:World}{K:W.Frag}{tg:Expr} (it:Addr) (lo:Int) (n:Nat):Turn P w K tg (Itr lo n) [it] it (fun i h=>IsRangeIter h it (lo+(i:Nat)*1) ((n:Int)-(i:Nat)) 1) where
 mem:=by simp
 obj:=fun i h st b hb=>by
  have e:b=it:=by simpa using hb
  subst e
  exact ⟨_,st,fun v z=>by
   have z':Data.fields _=Data.cell v:=z
   cases z'⟩
 keep:=fun i h h' st k=>k it (by simp) _ st
 item:=by
  intro X hP hw hK hc i Aa s σ H E I hf st hg
  subst hP hw hK
  obtain⟨f0,f1,f2,f3,f4,f5⟩:=hf it (by simp)
  have W:=Walks.range (prog:=X.prog) (w:=X.w) (I.ok.hd hc) it lo 1 n
  refine W.item i s _ _ hg st fun v h' tk hv st' kk=>?_
  obtain⟨t,rfl⟩:=hv
  have I1:Inv X Aa σ H { s with heap:=h',toks:=tk }:=I.turned (fun b o hb e=>kk b o (by simpa using hb) e) f0 f1 f3 f4 f5
  refine⟨_,rfl,Ac1 (s:={ s with heap:=h',toks:=tk }) (n:="range_iterator") st' rfl rfl (by decide) ⟨.int (lo+i),H,I1,⟨t,?_⟩,⟨rfl,rfl⟩,st',fun b hb=>(hf b hb).1⟩⟩
  rw [Int.mul_one]
 done:=by
  intro X hP hw hK hc i Aa s σ H E I hf st hg
  subst hP hw hK
  obtain⟨f0,f1,f2,f3,f4,f5⟩:=hf it (by simp)
  exact wpAny_pyNext_range_end (I.ok.hd hc) st (by have:n<=i:=hg;omega) fun h' eb=>⟨rfl,I.turned (t':=s.toks) (fun b o hb e=>eb b o hb e) f0 f1 f3 f4 f5⟩
 self:=fun _ _ _ _ _ st h=>wpAny_pyIter_rangeiter st h
end L2
namespace L2
open PySem PySem.Spec PyProof.Rows
section
variable {X:Cx}{tg:Expr}
def Ba9 (K:W.Frag) (tl:TE):TI:=fun σ H R=>tl σ H fun x H1=>∃ a,x=.ref a/\(∃ xs,SqL K H1 a xs)/\R (Itl K a) H1
def iTup (K:W.Frag) (tl:TE):TI:=fun σ H R=>tl σ H fun x H1=>∃ a,x=.ref a/\(∃ xs,SqT K H1 a xs)/\R (Itt K a) H1
theorem Az4 {l:Expr}{tl:TE} (hl:PE X l tl):PI X tg l (Ba9 X.K tl):=by
 intro Aa s σ H R I h
 refine thn (hl Aa s σ H _ I h) fun v s1 ⟨x,H1,I1,r1,q1⟩=>?_
 obtain⟨a,e,⟨xs,hq⟩,q⟩:=q1
 subst e
 cases r1
 obtain⟨its,rv,p,hz⟩:=I1.list hq
 refine wpAny_pyIter_list p.isList ?_
 refine⟨s1.heap.objs.size,[s1.heap.objs.size],_,_,H1,rfl,I1.kept (t':=s1.toks) fun b o e=>Heap.get?_push_of_some _ e,Af0 a _,⟨_,Heap.get?_push_size _ rfl,rfl,rfl⟩,fun b hb=>?_,q⟩
 have e:b=s1.heap.objs.size:=by simpa using hb
 subst e
 exact I1.fpOk (Nat.le_refl _) (I1.hok.fresh (Nat.le_refl _))
theorem A74 {l:Expr}{tl:TE} (hl:PE X l tl):PI X tg l (iTup X.K tl):=by
 intro Aa s σ H R I h
 refine thn (hl Aa s σ H _ I h) fun v s1 ⟨x,H1,I1,r1,q1⟩=>?_
 obtain⟨a,e,⟨xs,hq⟩,q⟩:=q1
 subst e
 cases r1
 obtain⟨its,rv,p,hz⟩:=I1.tuple hq
 refine wpAny_pyIter_tuple (show s1.heap.IsTuple a its.toArray from p) ?_
 refine⟨s1.heap.objs.size,[s1.heap.objs.size],_,_,H1,rfl,I1.kept (t':=s1.toks) fun b o e=>Heap.get?_push_of_some _ e,u6 a _,⟨_,Heap.get?_push_size _ rfl,rfl,rfl⟩,fun b hb=>?_,q⟩
 have e:b=s1.heap.objs.size:=by simpa using hb
 subst e
 exact I1.fpOk (Nat.le_refl _) (I1.hok.fresh (Nat.le_refl _))
theorem l6 {Aa:List (Addr × Obj)}{σ:St}{H:Hp}{s:Shared}{R:It->Hp->Prop}{E:Value->Shared->Prop}{lo hi:Int}{t u v:Tok}{tk:Nat} (I:Inv X Aa σ H s) (h1:-(2 ^ 62)<=lo) (h2:lo<2 ^ 62) (h3:-(2 ^ 62)<=hi) (h4:hi<2 ^ 62)
 (q:R (Itr lo (hi-lo).toNat) H):wpAny (model X.prog X.w) X.A (pyIter (.ref s.heap.objs.size)) (PIE X Aa σ tg R) E { s with heap:=s.heap.push { cls:=.type "range",data:=.fields #[.int lo t,.int hi u,.int 1 v] },toks:=tk }:=by
 refine wpAny_pyIter_range (IsRange.new ..) (small_one h1 h2 h3 h4) ?_
 have I1:Inv X Aa σ H { s with heap:=s.heap.push { cls:=.type "range",data:=.fields #[.int lo t,.int hi u,.int 1 v] },toks:=tk }:=I.kept fun b o e=>Heap.get?_push_of_some _ e
 refine⟨(s.heap.push { cls:=.type "range",data:=.fields #[.int lo t,.int hi u,.int 1 v] }).objs.size,[(s.heap.push { cls:=.type "range",data:=.fields #[.int lo t,.int hi u,.int 1 v] }).objs.size],_,_,H,rfl,
  I1.kept (t':=tk) fun b o e=>Heap.get?_push_of_some _ e,u7 _ lo (hi-lo).toNat,?_,fun b hb=>?_,q⟩
 . have e1:lo+((0:Nat):Int)*1=lo:=by simp
   have e2:(((hi-lo).toNat:Nat):Int)-((0:Nat):Int)=Builtin.Range.rangeSize lo hi 1:=by rw [rangeSize_one];split<;>omega
   show IsRangeIter _ _ (lo+((0:Nat):Int)*1) ((((hi-lo).toNat:Nat):Int)-((0:Nat):Int)) 1
   rw [e1,e2]
   exact Heap.get?_push_size _ rfl
 . have e:b=(s.heap.push { cls:=.type "range",data:=.fields #[.int lo t,.int hi u,.int 1 v] }).objs.size:=by simpa using hb
   subst e
   exact I1.fpOk (Nat.le_refl _) (I1.hok.fresh (Nat.le_refl _))
def Bf0 (ta:TA):TI:=fun σ H R=>ta σ H fun vs H1=>∃ j:Int,vs=[.int j]/\-(2 ^ 62)<=j/\j<2 ^ 62/\R (Itr 0 j.toNat) H1
def Be9 (ta:TA):TI:=fun σ H R=>ta σ H fun vs H1=>∃ i j:Int,vs=[.int i,.int j]/\(-(2 ^ 62)<=i/\i<2 ^ 62/\-(2 ^ 62)<=j/\j<2 ^ 62)/\R (Itr i (j-i).toNat) H1
theorem Cl {a:Expr}{ta:TA}{p pos:Pos} (hg:Gl X "range") (hm:X.mg "range"=none) (ha:PA X [a] ta) (hs:starEach [a] X.env=[(false,eval a X.env)]:=by rfl):PI X tg (.Call (.Name "range" p) [a] [] pos) (Bf0 ta):=by
 intro Aa s σ H R I h
 refine Call_ (N5 I hg hm boot_range (PyProof.Rows.callWith_type1 (thn (ha pos Aa s σ H _ I h) fun us s1 ⟨vs,H1,I1,r1,q1⟩=>?_) hs rfl))
 obtain⟨j,e,q1,q2,q⟩:=q1
 subst e
 cases r1 with
 | cons r rr =>
   cases rr
   obtain⟨t,rfl⟩:=r
   exact call_range_1 (l6 I1 (by omega) (by omega) q1 q2 (by simpa using q))
theorem Ah2 {a b:Expr}{ta:TA}{p pos:Pos} (hg:Gl X "range") (hm:X.mg "range"=none) (ha:PA X [a,b] ta) (hs:starEach [a,b] X.env=[(false,eval a X.env),(false,eval b X.env)]:=by rfl) (hs2:starEach [b] X.env=[(false,eval b X.env)]:=by rfl) :
 PI X tg (.Call (.Name "range" p) [a,b] [] pos) (Be9 ta):=by
 intro Aa s σ H R I h
 refine Call_ (N5 I hg hm boot_range (PyProof.Rows.callWith_type1 (thn (ha pos Aa s σ H _ I h) fun us s1 ⟨vs,H1,I1,r1,q1⟩=>?_) (by rw [hs,hs2]) (by rw [hs2];rfl)))
 obtain⟨i,j,e,⟨q1,q2,q3,q4⟩,q⟩:=q1
 subst e
 cases r1 with
 | cons r rr =>
   cases rr with
   | cons r' rr =>
     cases rr
     obtain⟨t,rfl⟩:=r
     obtain⟨t',rfl⟩:=r'
     exact call_range_2 (l6 I1 q1 q2 q3 q4 q)
def tFor (wi:TI) (g:TG) (tb:TS):TS:=fun D σ H=>wi σ H fun J H1=>∃ W:Nat->Nat->St->Hp->Prop,(∃ m,W 0 m σ H1)/\∀ i m σ H,W i m σ H →
 (J.stop i H/\D.nx σ H)\/(J.go i H/\∃ N:St->Hp->Prop,(∀ σ' H',N σ' H'->∃ m',m'<m/\W (i+1) m' σ' H')/\∀ x H',J.yld i H x H'->g x σ H' fun σ2 H2=>tb { D with nx:=N,ct:=N,bk:=D.nx } σ2 H2)
def Wh (fp:List Addr) (h:Heap):List (Addr × Obj):=fp.filterMap fun b=>(h.get? b).map fun o=>(b,o)
theorem Jn {fp:List Addr}{h:Heap}{b:Addr}{o:Obj} (hb:b∈fp) (e:h.get? b=some o):(b,o)∈Wh fp h:=List.mem_filterMap.mpr ⟨b,hb,by rw [e];rfl⟩
theorem Ah9 {fp:List Addr}{h:Heap}{p:Addr × Obj} (hp:p∈Wh fp h):p.1∈fp/\h.get? p.1=some p.2:=by
 obtain⟨b,hb,e⟩:=List.mem_filterMap.mp hp
 cases q:h.get? b with
 | none=>rw [q] at e;cases e
 | some o =>
   rw [q] at e
   have e':(b,o)=p:=Option.some.inj e
   subst e'
   exact ⟨hb,q⟩
theorem Inv.pinned {Aa:List (Addr × Obj)}{σ:St}{H:Hp}{s:Shared}{fp:List Addr} (I:Inv X Aa σ H s) (hf:∀ b∈fp,FpOk X Aa H b) (ho:∀ b∈fp,∃ o,s.heap.get? b=some o/\∀ v,o.data≠.cell v):Inv X (Aa++Wh fp s.heap) σ H s :=
 I.pins_of fun p hp=>(List.mem_append.mp hp).elim (fun z=>I.pin p (List.mem_append_right _ z)) fun z=>by
  obtain⟨hb,e⟩:=Ah9 z
  obtain⟨f0,f1,f2,_⟩:=hf p.1 hb
  obtain⟨o,e',d⟩:=ho p.1 hb
  rw [e] at e';cases e'
  exact ⟨e,f0,f1,f2,d⟩
theorem Inv.unpinned {Aa pl:List (Addr × Obj)}{σ:St}{H:Hp}{s:Shared} (I:Inv X (Aa++pl) σ H s):Inv X Aa σ H s:=I.pins_of fun p hp=>I.pin p (List.mem_append_right _ (List.mem_append_left _ hp))
theorem C0 {iter:Expr}{body:List Stmt}{wi:TI}{g:TG}{tb:TS}{pos:Pos} (hp:PassesOwn (model X.prog X.w) X.A X.env X.xe) (hc:X.calm=true) (hi:PI X tg iter wi) (hg:PG X tg g) (hb:PSs X body tb)
 (hs:∀ x,foldedSetIterable iter X.env x=pure x:=by intro _;rfl):PS X (.For tg iter body [] pos) (tFor wi g tb):=by
 intro Aa s σ H D I h
 refine wpAny_For (thn (hi Aa s σ H _ I h) fun v s1 h1=>thn h1 fun itv s2 h2=>?_) hs
 obtain⟨it,fp,tn,J,H2,e,I2,T,st2,f2,W,⟨m0,w0⟩,turn⟩:=h2
 subst e
 have stat:∀{H':Hp},(∀ b∈fp,H' b=none)->∀ b∈fp,FpOk X Aa H' b:=fun hn b hb=>⟨hn b hb,(f2 b hb).2⟩
 refine codeAny_forLoop_any (fun n s'=>∃ i σ' H',Inv X Aa σ' H' s'/\tn i s'.heap/\(∀ b∈fp,H' b=none)/\W i n σ' H') ?_ m0 ⟨0,σ,H2,I2,st2,fun b hb=>(f2 b hb).1,w0⟩
 rintro n s3 ⟨i,σ3,H3,I3,st3,fr3,w3⟩
 rcases turn i n σ3 H3 w3 with ⟨stop,qn⟩|⟨go,N,hN,step⟩
 . refine wpAny_passesOwn hp (thn (T.done X rfl rfl rfl hc i Aa s3 σ3 H3 X.xe I3 (stat fr3) st3 stop) fun r s4 ⟨hr,I4⟩=>?_)
   subst hr
   exact wpAny_execs_nil ⟨σ3,H3,I4,qn⟩
 . refine wpAny_passesOwn hp (thn (T.item X rfl rfl rfl hc i Aa s3 σ3 H3 X.xe I3 (stat fr3) st3 go) fun r s4 ⟨u,hr,h4⟩=>?_)
   subst hr
   refine wpAny_passesOwn hp (thn h4 fun _ s5 ⟨x,H5,I5,r5,y5,st5,fr5⟩=>?_)
   have I5':=I5.pinned (stat fr5) (T.obj _ _ st5)
   refine wpAny_passesOwn hp (thn (hg _ s5 σ3 H5 x u _ I5' r5 (step x H5 y5)) fun _ s6 ⟨σ6,H6,I6,q6⟩=>?_)
   refine wpAny_passesOwn hp (thn (hb _ s6 σ6 H6 _ I6 q6) fun f s7 q7=>?_)
   have again:∀{σ7:St}{H7:Hp},Inv X (Aa++Wh fp s5.heap) σ7 H7 s7->N σ7 H7->∃ m,m<n/\∃ i σ' H',Inv X Aa σ' H' s7/\tn i s7.heap/\(∀ b∈fp,H' b=none)/\W i m σ' H':=fun {σ7 H7} I7 n7=>by
    obtain⟨m',hm,w7⟩:=hN σ7 H7 n7
    refine⟨m',hm,i+1,σ7,H7,I7.unpinned,T.keep _ _ _ st5 fun b hb o e=>(I7.pin (b,o) (List.mem_append_right _ (List.mem_append_right _ (Jn hb e)))).1,fun b hb=>?_,w7⟩
    obtain⟨o,e,d⟩:=T.obj _ _ st5 b hb
    exact (I7.pin (b,o) (List.mem_append_right _ (List.mem_append_right _ (Jn hb e)))).2.1
   cases f with
   | next=>obtain⟨σ7,H7,I7,n7⟩:=q7;exact again I7 n7
   | cont=>obtain⟨σ7,H7,I7,n7⟩:=q7;exact again I7 n7
   | brk=>obtain⟨σ7,H7,I7,q7⟩:=q7;exact ⟨σ7,H7,I7.unpinned,q7⟩
   | ret v=>obtain⟨x7,σ7,H7,I7,r7,q7⟩:=q7;exact ⟨x7,σ7,H7,I7.unpinned,r7,q7⟩
end
theorem for_list {K:W.Frag}{a:Addr}{xs:List V}{g:TG}{tb:TS}{D:Ends}{σ:St}{H:Hp} (Pv:Nat->St->Hp->Prop) (h0:Pv 0 σ H) (hl:∀ i σ H,i<=xs.length->Pv i σ H->SqL K H a xs)
 (hs:∀ i x σ H,xs[i]?=some x->Pv i σ H->g x σ H fun σ2 H2=>tb { D with nx:=Pv (i+1),ct:=Pv (i+1),bk:=D.nx } σ2 H2) (hd:∀ σ H,Pv xs.length σ H->D.nx σ H) :
 ∃ W:Nat->Nat->St->Hp->Prop,(∃ m,W 0 m σ H)/\∀ i m σ H,W i m σ H →
   ((Itl K a).stop i H/\D.nx σ H)\/((Itl K a).go i H/\∃ N:St->Hp->Prop,(∀ σ' H',N σ' H'->∃ m',m'<m/\W (i+1) m' σ' H')/\∀ x H',(Itl K a).yld i H x H'->g x σ H' fun σ2 H2=>tb { D with nx:=N,ct:=N,bk:=D.nx } σ2 H2):=by
 refine⟨fun i m σ H=>m=xs.length-i/\i<=xs.length/\Pv i σ H,⟨xs.length,by simp,Nat.zero_le _,h0⟩,?_⟩
 rintro i m σ H ⟨rfl,hi,p⟩
 have q:=hl i σ H hi p
 by_cases hlt:i<xs.length
 . refine .inr ⟨⟨xs,xs[i],q,by simp [hlt]⟩,Pv (i+1),fun σ' H' p'=>⟨xs.length-(i+1),by omega,rfl,hlt,p'⟩,fun x H' y=>?_⟩
   obtain⟨e,y⟩:=y
   subst e
   exact hs i x σ _ (y xs q) p
 . have e:i=xs.length:=by omega
   subst e
   exact .inl ⟨⟨xs,q,Nat.le_refl _⟩,hd σ H p⟩
theorem A31 {K:W.Frag}{a:Addr}{xs:List V}{g:TG}{tb:TS}{D:Ends}{σ:St}{H:Hp} (Pv:Nat->St->Hp->Prop) (h0:Pv 0 σ H) (hl:∀ i σ H,i<=xs.length->Pv i σ H->SqT K H a xs)
 (hs:∀ i x σ H,xs[i]?=some x->Pv i σ H->g x σ H fun σ2 H2=>tb { D with nx:=Pv (i+1),ct:=Pv (i+1),bk:=D.nx } σ2 H2) (hd:∀ σ H,Pv xs.length σ H->D.nx σ H) :
 ∃ W:Nat->Nat->St->Hp->Prop,(∃ m,W 0 m σ H)/\∀ i m σ H,W i m σ H →
   ((Itt K a).stop i H/\D.nx σ H)\/((Itt K a).go i H/\∃ N:St->Hp->Prop,(∀ σ' H',N σ' H'->∃ m',m'<m/\W (i+1) m' σ' H')/\∀ x H',(Itt K a).yld i H x H'->g x σ H' fun σ2 H2=>tb { D with nx:=N,ct:=N,bk:=D.nx } σ2 H2):=by
 refine⟨fun i m σ H=>m=xs.length-i/\i<=xs.length/\Pv i σ H,⟨xs.length,by simp,Nat.zero_le _,h0⟩,?_⟩
 rintro i m σ H ⟨rfl,hi,p⟩
 have q:=hl i σ H hi p
 by_cases hlt:i<xs.length
 . refine .inr ⟨⟨xs,xs[i],q,by simp [hlt]⟩,Pv (i+1),fun σ' H' p'=>⟨xs.length-(i+1),by omega,rfl,hlt,p'⟩,fun x H' y=>?_⟩
   obtain⟨e,y⟩:=y
   subst e
   exact hs i x σ _ (y xs q) p
 . have e:i=xs.length:=by omega
   subst e
   exact .inl ⟨⟨xs,q,Nat.le_refl _⟩,hd σ H p⟩
theorem Co {lo:Int}{n:Nat}{g:TG}{tb:TS}{D:Ends}{σ:St}{H:Hp} (Pv:Nat->St->Hp->Prop) (h0:Pv 0 σ H)
 (hs:∀ i σ H,i<n->Pv i σ H->g (.int (lo+i)) σ H fun σ2 H2=>tb { D with nx:=Pv (i+1),ct:=Pv (i+1),bk:=D.nx } σ2 H2) (hd:∀ σ H,Pv n σ H->D.nx σ H) :
 ∃ W:Nat->Nat->St->Hp->Prop,(∃ m,W 0 m σ H)/\∀ i m σ H,W i m σ H →
   ((Itr lo n).stop i H/\D.nx σ H)\/((Itr lo n).go i H/\∃ N:St->Hp->Prop,(∀ σ' H',N σ' H'->∃ m',m'<m/\W (i+1) m' σ' H')/\∀ x H',(Itr lo n).yld i H x H'->g x σ H' fun σ2 H2=>tb { D with nx:=N,ct:=N,bk:=D.nx } σ2 H2):=by
 refine⟨fun i m σ H=>m=n-i/\i<=n/\Pv i σ H,⟨n,by simp,Nat.zero_le _,h0⟩,?_⟩
 rintro i m σ H ⟨rfl,hi,p⟩
 by_cases hlt:i<n
 . refine .inr ⟨hlt,Pv (i+1),fun σ' H' p'=>⟨n-(i+1),by omega,rfl,hlt,p'⟩,fun x H' y=>?_⟩
   obtain⟨e,y⟩:=y
   subst e y
   exact hs i σ _ hlt p
 . have e:i=n:=by omega
   subst e
   exact .inl ⟨Nat.le_refl _,hd σ H p⟩
end L2
namespace L2
open PySem PySem.Spec PyProof.Rows
abbrev R2:=V->V->Hp->VK->Prop
def OpR (X:Cx) (f:Value->Value->Sem Value) (r:R2):Prop :=
 ∀ (Aa:List (Addr × Obj)) (s:Shared) (σ:St) (H:Hp) (x y:V) (v u:Value) (Q:VK),Inv X Aa σ H s->RelV x v->RelV y u->r x y H Q →
   wpAny (model X.prog X.w) X.A (f v u) (EP X Aa σ Q) X.xe s
def UnR (X:Cx) (f:Value->Sem Value) (r:V->Hp->VK->Prop):Prop :=
 ∀ (Aa:List (Addr × Obj)) (s:Shared) (σ:St) (H:Hp) (x:V) (v:Value) (Q:VK),Inv X Aa σ H s->RelV x v->r x H Q →
   wpAny (model X.prog X.w) X.A (f v) (EP X Aa σ Q) X.xe s
def Du (X:Cx) (f:Value) (r:List V->Hp->VK->Prop):Prop :=
 ∀ (Aa:List (Addr × Obj)) (s:Shared) (σ:St) (H:Hp) (xs:List V) (us:List Value) (Q:VK),Inv X Aa σ H s->Vals xs us->r xs H Q →
   wpAny (model X.prog X.w) X.A (call f us) (EP X Aa σ Q) X.xe s
def tOp (r:R2) (ta tb:TE):TE:=fun σ H Q=>ta σ H fun x H1=>tb σ H1 fun y H2=>r x y H2 Q
def tUn (r:V->Hp->VK->Prop) (ta:TE):TE:=fun σ H Q=>ta σ H fun x H1=>r x H1 Q
def rI (C:Int->Int->Prop) (g:Int->Int->V):R2:=fun x y H Q=>∃ i j,x=.int i/\y=.int j/\C i j/\Q (g i j) H
def rI0 (g:Int->Int->V):R2:=fun x y H Q=>∃ i j,x=.int i/\y=.int j/\Q (g i j) H
def rU (g:Int->V):V->Hp->VK->Prop:=fun x H Q=>∃ i,x=.int i/\Q (g i) H
section
variable {X:Cx}{a b c:Expr}{ta tb tc:TE}{pos:Pos}
theorem binT (ha:PE X a ta) (hb:PE X b tb) {Aa:List (Addr × Obj)}{s:Shared}{σ:St}{H:Hp}{R:V->V->Hp->Prop} (I:Inv X Aa σ H s)
 (h:ta σ H fun x H1=>tb σ H1 fun y H2=>R x y H2) {Q:Value->Shared->Prop}{f:Value->Value->Sem Value}
 (hf:∀ v u s2 x y H2,Inv X Aa σ H2 s2->RelV x v->RelV y u->R x y H2->wpAny (model X.prog X.w) X.A (f v u) Q X.xe s2) :
 wpAny (model X.prog X.w) X.A (eval a X.env) (fun v s₁=>wpAny (model X.prog X.w) X.A (eval b X.env) (fun u s₂=>wpAny (model X.prog X.w) X.A (f v u) Q X.xe s₂) X.xe s₁) X.xe s:=by
 refine thn (ha Aa s σ H _ I h) fun v s1 ⟨x,H1,I1,r1,q1⟩=>?_
 refine thn (hb Aa s1 σ H1 _ I1 q1) fun u s2 ⟨y,H2,I2,r2,q2⟩=>?_
 exact hf v u s2 x y H2 I2 r1 r2 q2
theorem A0 {op:Operator}{r:R2} (ho:OpR X (binaryOp op) r) (ha:PE X a ta) (hb:PE X b tb):PE X (.BinOp a op b pos) (tOp r ta tb):=by
 intro Aa s σ H Q I h
 exact wpAny_BinOp (binT ha hb I h fun v u s2 x y H2 I2 rx ry q=>ho Aa s2 σ H2 x y v u Q I2 rx ry q)
theorem Ah4 {op:UnaryOp}{r:V->Hp->VK->Prop} (ho:UnR X (unaryOp op) r) (ha:PE X a ta):PE X (.UnaryOp op a pos) (tUn r ta):=by
 intro Aa s σ H Q I h
 exact UnaryOp_ (thn (ha Aa s σ H _ I h) fun v s1 ⟨x,H1,I1,r1,q1⟩=>ho Aa s1 σ H1 x v Q I1 r1 q1)
theorem opI {f:Value->Value->Sem Value}{C:Int->Int->Prop}{g:Int->Int->Int}
 (rule:∀ (i j:Int) (t u:Tok) (s:Shared) (Q:Value->Shared->Prop) (E:Value->Shared->Prop),C i j->Q (.int (g i j) s.toks) { s with toks:=s.toks+1 }->wpAny (model X.prog X.w) X.A (f (.int i t) (.int j u)) Q E s) :
 OpR X f (rI C fun i j=>.int (g i j)):=by
 intro Aa s σ H x y v u Q I rx ry h
 obtain⟨i,j,rfl,rfl,hc,q⟩:=h
 obtain⟨t,rfl⟩:=rx
 obtain⟨t',rfl⟩:=ry
 exact rule i j t t' s _ _ hc ⟨.int (g i j),H,I.tok _,⟨_,rfl⟩,q⟩
theorem opI0 {f:Value->Value->Sem Value}{g:Int->Int->Int}
 (rule:∀ (i j:Int) (t u:Tok) (s:Shared) (Q:Value->Shared->Prop) (E:Value->Shared->Prop),Q (.int (g i j) s.toks) { s with toks:=s.toks+1 }->wpAny (model X.prog X.w) X.A (f (.int i t) (.int j u)) Q E s) :
 OpR X f (rI0 fun i j=>.int (g i j)):=by
 intro Aa s σ H x y v u Q I rx ry h
 obtain⟨i,j,rfl,rfl,q⟩:=h
 obtain⟨t,rfl⟩:=rx
 obtain⟨t',rfl⟩:=ry
 exact rule i j t t' s _ _ ⟨.int (g i j),H,I.tok _,⟨_,rfl⟩,q⟩
theorem opB0 {f:Value->Value->Sem Value}{g:Int->Int->Bool}
 (rule:∀ (i j:Int) (t u:Tok) (s:Shared) (Q:Value->Shared->Prop) (E:Value->Shared->Prop),Q (.bool (g i j)) s->wpAny (model X.prog X.w) X.A (f (.int i t) (.int j u)) Q E s) :
 OpR X f (rI0 fun i j=>.bl (g i j)):=by
 intro Aa s σ H x y v u Q I rx ry h
 obtain⟨i,j,rfl,rfl,q⟩:=h
 obtain⟨t,rfl⟩:=rx
 obtain⟨t',rfl⟩:=ry
 exact rule i j t t' s _ _ ⟨.bl (g i j),H,I,rfl,q⟩
def CDiv (i j:Int):Prop:=0<j/\j<1073741824
def CMul (i j:Int):Prop:=(-(2 ^ 64)<i/\i<2 ^ 64)\/(-(2 ^ 64)<j/\j<2 ^ 64)
theorem CMul.ok {i j:Int} (h:CMul i j):IntMulOk i j:=by
 rcases h with ⟨h1,h2⟩|⟨h1,h2⟩
 . exact .of_left (intBits_le_64 h1 h2)
 . exact .of_right (intBits_le_64 h1 h2)
theorem Il:OpR X (binaryOp .Add) (rI0 fun i j=>.int (i+j)):=opI0 fun _ _ _ _ _ _ _ q=>add_int q
theorem Ik:OpR X (binaryOp .Sub) (rI0 fun i j=>.int (i-j)):=opI0 fun _ _ _ _ _ _ _ q=>sub_int q
theorem Fq:OpR X (binaryOp .FloorDiv) (rI CDiv fun i j=>.int (i / j)):=opI fun i j _ _ _ _ _ hc q=>by
 have h1:(0:Int)<j:=hc.1
 have h2:j<1073741824:=hc.2
 exact floordiv_int (by omega) (by rw [Int.fdiv_eq_ediv_of_nonneg i (by omega)];exact q) (.inl (PyProof.noPylong_small (by omega)))
theorem Bs:OpR X (binaryOp .Mod) (rI (fun _ j=>0<j) fun i j=>.int (i%j)):=opI fun i j _ _ _ _ _ hc q=>by
 have h1:(0:Int)<j:=hc
 exact mod_int' (by omega) (by rw [Int.fmod_eq_emod_of_nonneg i (by omega)];exact q)
theorem unI {f:Value->Sem Value}{g:Int->Int}
 (rule:∀ (i:Int) (t:Tok) (s:Shared) (Q:Value->Shared->Prop) (E:Value->Shared->Prop),Q (.int (g i) s.toks) { s with toks:=s.toks+1 }->wpAny (model X.prog X.w) X.A (f (.int i t)) Q E s) :
 UnR X f (rU fun i=>.int (g i)):=by
 intro Aa s σ H x v Q I rx h
 obtain⟨i,rfl,q⟩:=h
 obtain⟨t,rfl⟩:=rx
 exact rule i t s _ _ ⟨.int (g i),H,I.tok _,⟨_,rfl⟩,q⟩
theorem V0:UnR X (unaryOp .USub) (rU fun i=>.int (-i)):=unI fun _ _ _ _ _ q=>neg_int q
end
def scal:V->V->Bool
 | .non,.non=>true | .non,.int _=>true | .int _,.non=>true | .non,.bl _=>true | .bl _,.non=>true | .non,.str _=>true | .str _,.non=>true
 | .int _,.int _=>true | .bl _,.bl _=>true | .str _,.str _=>true | .byt _,.byt _=>true
 | .int _,.str _=>true | .str _,.int _=>true | .bl _,.str _=>true | .str _,.bl _=>true
 | _,_=>false
def rEq:R2:=fun x y H Q=>scal x y=true/\Q (.bl (decide (x=y))) H
def rNe:R2:=fun x y H Q=>scal x y=true/\Q (.bl (!decide (x=y))) H
theorem Am6 {i j:Int}:decide (V.int i=V.int j)=(i==j):=by
 rw [Bool.eq_iff_iff]
 simp
theorem Ax1 {i j:Bool}:decide (V.bl i=V.bl j)=(i==j):=by
 rw [Bool.eq_iff_iff]
 simp
theorem Am5 {i j:Str}:decide (V.str i=V.str j)=(i==j):=by
 rw [Bool.eq_iff_iff]
 simp
theorem Am7 {i j:Array UInt8}:decide (V.byt i=V.byt j)=(i.toList==j.toList):=by
 rw [Bool.eq_iff_iff]
 cases i
 cases j
 simp
section
variable {X:Cx}{a b c:Expr}{ta tb tc:TE}{pos:Pos}
theorem Bj {Aa:List (Addr × Obj)}{σ:St}{H:Hp}{s:Shared}{Q:VK}{k k':Bool} (I:Inv X Aa σ H s) (q:Q (.bl k) H) (e:k=k'):EP X Aa σ Q (.bool k') s:=by
 subst e
 exact ⟨.bl k,H,I,rfl,q⟩
theorem Fr:OpR X (compareOp .Eq) rEq:=by
 intro Aa s σ H x y v u Q I rx ry h
 obtain⟨hs,q⟩:=h
 cases x with
 | non =>
   cases rx
   cases y with
   | non=>cases ry;exact PySem.EqNone.eq_none_none (Bj I q (by simp))
   | bl j=>cases ry;exact PySem.EqNone.eq_none_bool (Bj I q (by simp))
   | int j=>obtain⟨t',rfl⟩:=ry;exact PySem.EqNone.eq_none_int (Bj I q (by simp))
   | str j=>obtain⟨t',rfl⟩:=ry;exact PySem.EqNone.eq_none_str (Bj I q (by simp))
   | _=>exact absurd (show false=true from hs) Bool.false_ne_true
 | bl i =>
   cases rx
   cases y with
   | non=>cases ry;exact PySem.EqNone.eq_bool_none (Bj I q (by simp))
   | bl j=>cases ry;exact eq_bool (Bj I q Ax1)
   | str j=>obtain⟨t',rfl⟩:=ry;exact PySem.EqMixed.eq_bool_str (Bj I q (by simp))
   | _=>exact absurd (show false=true from hs) Bool.false_ne_true
 | int i =>
   obtain⟨t,rfl⟩:=rx
   cases y with
   | non=>cases ry;exact PySem.EqNone.eq_int_none (Bj I q (by simp))
   | int j=>obtain⟨t',rfl⟩:=ry;exact eq_int (Bj I q Am6)
   | str j=>obtain⟨t',rfl⟩:=ry;exact PySem.EqMixed.eq_int_str (Bj I q (by simp))
   | _=>exact absurd (show false=true from hs) Bool.false_ne_true
 | str i =>
   obtain⟨t,rfl⟩:=rx
   cases y with
   | non=>cases ry;exact PySem.EqNone.eq_str_none (Bj I q (by simp))
   | bl j=>cases ry;exact PySem.EqMixed.eq_str_bool (Bj I q (by simp))
   | int j=>obtain⟨t',rfl⟩:=ry;exact PySem.EqMixed.eq_str_int (Bj I q (by simp))
   | str j=>obtain⟨t',rfl⟩:=ry;exact eq_str (Bj I q Am5)
   | _=>exact absurd (show false=true from hs) Bool.false_ne_true
 | byt i =>
   obtain⟨t,rfl⟩:=rx
   cases y with
   | byt j=>obtain⟨t',rfl⟩:=ry;exact PySem.W.eq_bytes (Bj I q Am7)
   | _=>exact absurd (show false=true from hs) Bool.false_ne_true
 | _=>cases y<;>exact absurd (show false=true from hs) Bool.false_ne_true
theorem Lk:OpR X (compareOp .NotEq) rNe:=by
 intro Aa s σ H x y v u Q I rx ry h
 obtain⟨hs,q⟩:=h
 cases x with
 | non =>
   cases rx
   cases y with
   | non=>cases ry;exact PySem.EqNone.ne_none_none (Bj I q (by simp))
   | bl j=>cases ry;exact PySem.EqNone.ne_none_bool (Bj I q (by simp))
   | int j=>obtain⟨t',rfl⟩:=ry;exact PySem.EqNone.ne_none_int (Bj I q (by simp))
   | str j=>obtain⟨t',rfl⟩:=ry;exact PySem.EqNone.ne_none_str (Bj I q (by simp))
   | _=>exact absurd (show false=true from hs) Bool.false_ne_true
 | bl i =>
   cases rx
   cases y with
   | non=>cases ry;exact PySem.EqNone.ne_bool_none (Bj I q (by simp))
   | bl j=>cases ry;exact ne_bool (Bj I q (congrArg not Ax1))
   | str j=>obtain⟨t',rfl⟩:=ry;exact PySem.EqMixed.ne_bool_str (Bj I q (by simp))
   | _=>exact absurd (show false=true from hs) Bool.false_ne_true
 | int i =>
   obtain⟨t,rfl⟩:=rx
   cases y with
   | non=>cases ry;exact PySem.EqNone.ne_int_none (Bj I q (by simp))
   | int j=>obtain⟨t',rfl⟩:=ry;exact ne_int (Bj I q (congrArg not Am6))
   | str j=>obtain⟨t',rfl⟩:=ry;exact PySem.EqMixed.ne_int_str (Bj I q (by simp))
   | _=>exact absurd (show false=true from hs) Bool.false_ne_true
 | str i =>
   obtain⟨t,rfl⟩:=rx
   cases y with
   | non=>cases ry;exact PySem.EqNone.ne_str_none (Bj I q (by simp))
   | bl j=>cases ry;exact PySem.EqMixed.ne_str_bool (Bj I q (by simp))
   | int j=>obtain⟨t',rfl⟩:=ry;exact PySem.EqMixed.ne_str_int (Bj I q (by simp))
   | str j=>obtain⟨t',rfl⟩:=ry;exact ne_str (Bj I q (congrArg not Am5))
   | _=>exact absurd (show false=true from hs) Bool.false_ne_true
 | byt i =>
   obtain⟨t,rfl⟩:=rx
   cases y with
   | byt j=>obtain⟨t',rfl⟩:=ry;exact PySem.W.ne_bytes (Bj I q (congrArg not Am7))
   | _=>exact absurd (show false=true from hs) Bool.false_ne_true
 | _=>cases y<;>exact absurd (show false=true from hs) Bool.false_ne_true
theorem Oh:OpR X (compareOp .Lt) (rI0 fun i j=>.bl (decide (i<j))):=opB0 fun _ _ _ _ _ _ _ q=>lt_int q
theorem A80:OpR X (compareOp .LtE) (rI0 fun i j=>.bl (decide (i<=j))):=opB0 fun _ _ _ _ _ _ _ q=>le_int q
theorem z8:OpR X (compareOp .Gt) (rI0 fun i j=>.bl (decide (j<i))):=opB0 fun _ _ _ _ _ _ _ q=>gt_int q
theorem A83:OpR X (compareOp .GtE) (rI0 fun i j=>.bl (decide (j<=i))):=opB0 fun _ _ _ _ _ _ _ q=>ge_int q
theorem Ax (b:Expr) {op:CmpOp} (h:op≠.In:=by decide) (h2:op≠.NotIn:=by decide):behindInMarks op b=false:=by
 have e1:(op==CmpOp.In)=false:=by cases op<;>first | rfl | exact absurd rfl h
 have e2:(op==CmpOp.NotIn)=false:=by cases op<;>first | rfl | exact absurd rfl h2
 cases b<;>simp [behindInMarks,e1,e2]
theorem Ij {op:CmpOp}{r:R2} (ho:OpR X (compareOp op) r) (ha:PE X a ta) (hb:PE X b tb) (hm:behindInMarks op b=false):PE X (.Compare a [op] [b] pos) (tOp r ta tb):=by
 intro Aa s σ H Q I h
 exact wpAny_Compare1 (binT ha hb I h fun v u s2 x y H2 I2 rx ry q=>ho Aa s2 σ H2 x y v u Q I2 rx ry q) hm
def Bc8 (t:TE):TT:=fun σ H Q=>t σ H fun x H'=>∃ k,x=.bl k/\Q k H'
theorem Ao {op:CmpOp}{r:R2} (ho:OpR X (compareOp op) r) (ha:PE X a ta) (hb:PE X b tb) (hm:behindInMarks op b=false):PT X (.Compare a [op] [b] pos) (Bc8 (tOp r ta tb)):=by
 intro Aa s σ H Q I h
 refine wpAny_isTrue_Compare1 (thn (ha Aa s σ H _ I h) fun v s1 ⟨x,H1,I1,r1,q1⟩=>thn (hb Aa s1 σ H1 _ I1 q1) fun u s2 ⟨y,H2,I2,r2,q2⟩ =>
  thn (ho Aa s2 σ H2 x y v u _ I2 r1 r2 q2) fun c s3 ⟨z,H3,I3,r3,k,e,q3⟩=>?_) hm
 subst e
 cases r3
 exact wpAny_truthy_bool ⟨H3,I3,q3⟩
def A64 (r r':R2) (ta tb tc:TE):TE:=fun σ H Q=>ta σ H fun x H1=>tb σ H1 fun y H2=>r x y H2 fun z H3=>∃ k,z=.bl k ∧
 (if k=true then tc σ H3 fun w' H4=>r' y w' H4 Q else Q (.bl false) H3)
theorem m3 {op op':CmpOp}{r r':R2} (ho:OpR X (compareOp op) r) (ho':OpR X (compareOp op') r') (ha:PE X a ta) (hb:PE X b tb) (hc:PE X c tc)
 (hm:lastMarks [op,op'] [b,c]=false:=by with_unfolding_all rfl):PE X (.Compare a [op,op'] [b,c] pos) (A64 r r' ta tb tc):=by
 intro Aa s σ H Q I h
 refine Compare_chain (thn (ha Aa s σ H _ I h) fun v s1 ⟨x,H1,I1,r1,q1⟩=>chain_link (thn (hb Aa s1 σ H1 _ I1 q1) fun u s2 ⟨y,H2,I2,r2,q2⟩ =>
  thn (ho Aa s2 σ H2 x y v u _ I2 r1 r2 q2) fun d s3 ⟨z,H3,I3,r3,k,e,q3⟩=>?_)) hm
 subst e
 cases r3
 refine wpAny_truthy_bool ?_
 cases k with
 | false=>exact ite_ff ⟨.bl false,H3,I3,rfl,q3⟩
 | true=>exact ite_tt (chain_last (thn (hc Aa s3 σ H3 _ I3 q3) fun w' s4 ⟨z',H4,I4,r4,q4⟩=>ho' Aa s4 σ H4 y z' u w' Q I4 r2 r4 q4))
theorem Aj5:(sizeLine:Nat)<2 ^ 63:=by rw [sizeLine_eq];decide
theorem Mc {x:V}{us:List Value} (r:Vals [x] us):∃ u,us=[u]/\RelV x u:=by
 cases r with
 | cons r1 r2=>cases r2;exact ⟨_,rfl,r1⟩
theorem Vz {x y:V}{us:List Value} (r:Vals [x,y] us):∃ u w',us=[u,w']/\RelV x u/\RelV y w':=by
 cases r with
 | cons r1 r2 =>
   cases r2 with
   | cons r3 r4=>cases r4;exact ⟨_,_,rfl,r1,r3⟩
theorem Xs (hc:X.calm=true):Du X (.builtin "max") (fun xs H Q=>∃ i j,xs=[.int i,.int j]/\Q (.int (if j > i then j else i)) H):=by
 intro Aa s σ H xs us Q I r h
 obtain⟨i,j,rfl,q⟩:=h
 obtain⟨u,w',rfl,⟨t,rfl⟩,⟨t',rfl⟩⟩:=Vz r
 refine max_two_ints (I.ok.hd hc) fun h' tk k=>⟨_,H,I.kept k,?_,q⟩
 by_cases hj:j > i
 . rw [if_pos hj,if_pos hj];exact ⟨_,rfl⟩
 . rw [if_neg hj,if_neg hj];exact ⟨_,rfl⟩
end
end L2
namespace L2
open PySem PySem.Spec PyProof.Rows
structure ObjM (h:Heap) (x dx C:Addr) (mA:Str->Option Value):Prop where
 obj:h.get? x=some (PySem.W.instObj C dx)
 ns:h.Ns1 dx mA
 ne:dx≠x
theorem Aj3 {h:Heap}{dx:Addr}{mA:Str->Option Value} (n:h.Ns1 dx mA):∃ od,h.get? dx=some od/\∀ name,PySem.W.lookIn name od=some (mA name):=by
 obtain⟨o,es,ep,ho,hd,hk,_,hm⟩:=n
 refine⟨o,ho,fun name=>?_⟩
 have e:=hm name
 unfold nsFind findBy at e
 rw [←Array.find?_toList] at e
 unfold PySem.W.lookIn
 rw [hd]
 dsimp only
 split
 . rename_i y q
   rw [q] at e
   exact congrArg some e
 . rename_i q
   rw [q] at e
   have a:es.toList.any (·.refKey)=false:=by
    rw [List.any_eq_false]
    intro y hy
    obtain⟨z,t,hkey⟩:=hk y (Array.mem_toList_iff.mp hy)
    simp [DictEntry.refKey,hkey]
   have a':¬es.toList.any (·.refKey)=true:=by rw [a];exact Bool.false_ne_true
   rw [if_neg a']
   exact congrArg some e
theorem ObjM.look {h:Heap}{x dx C:Addr}{mA:Str->Option Value} (I:ObjM h x dx C mA):∃ od,PySem.W.InstAt h x (PySem.W.instObj C dx) C (some od)/\∀ name,PySem.W.lookIn name od=some (mA name) :=
 let ⟨od,ho,hl⟩:=Aj3 I.ns
 ⟨od,⟨I.obj,rfl,rfl,ho⟩,hl⟩
section
variable {prog:Program}{w:World}{A:Around}{E:Value->Shared->Prop}{s:Shared}{K:W.Frag}{x dx C f:Addr}{mA:Str->Option Value}{name:Str}{v:Value}
theorem A30 {expr:Bool}{Q:Value->Shared->Prop} (X:K.In s.heap) (I:ObjM s.heap x dx C mA) (hg:PySem.W.plainGet K C name=true) (hh:PySem.W.hasDictIn K C=true)
 (ha:PySem.W.findIn K (.ref C) name=some none) (hv:mA name=some v) (hv':PySem.W.handedIn v=true) (h:Q v { s with toks:=s.toks+1 }) :
 wpAny (model prog w) A (getAttr (.ref x) name expr) Q E s:=by
 obtain⟨od,J,hl⟩:=I.look
 exact PySem.W.get_value X J (PySem.W.plainGet_of hg).1 (PySem.W.findObj_own hh ha rfl (by rw [hl,hv])) hv' h
theorem Au2 {pl:Sem Bool}{Q:Value × List Value->Shared->Prop} (X:K.In s.heap) (I:ObjM s.heap x dx C mA) (hg:PySem.W.plainGet K C name=true)
 (hf:PySem.W.findIn K (.ref C) name=some (some (.ref f))) (ht:PySem.W.isFn K (.ref f)=true) (hv:mA name=none) (h:Q (.ref f,[.ref x]) s) :
 wpAny (model prog w) A (getMethod (.ref x) name pl) Q E s:=by
 obtain⟨od,J,hl⟩:=I.look
 exact PySem.W.method_fn X J (PySem.W.plainGet_of hg).1 (PySem.W.plainGet_of hg).2 hf (beq_iff_eq.mp ht) (by show (PySem.W.lookIn name od).map (·.isSome)=some false;rw [hl,hv];rfl) h
theorem Ay5 {ns:List Str}{Q:Unit->Shared->Prop} (X:K.In s.heap) (I:ObjM s.heap x dx C mA)
 (hs:PySem.W.findIn K (.ref C) "__setattr__"=some (some (.builtin "object.__setattr__"))) (hp:PySem.W.plainOver K C=true) (ht:PySem.W.takerIn K C name=some none) (hh:PySem.W.hasDictIn K C=true)
 (hw:PySem.Within mA ns) (hsz:ns.length<=sizeLine)
 (h:∀ h',ObjM h' x dx C (fun y=>if y=name then some v else mA y)->Heap.SameBut dx s.heap h'->Q () { s with heap:=h',toks:=s.toks+2 }) :
 wpAny (model prog w) A (setAttr (.ref x) name v) Q E s:=by
 obtain⟨od,J,hl⟩:=I.look
 refine PySem.W.set_plain X J hs (PySem.W.osa_open (s:={ s with toks:=s.toks+1 }) (r:=none) X J hp ht fun b=>?_)
 obtain⟨cd,hc,hd'⟩:=PySem.W.any_some hh
 have hx:s.heap.get? x=some ⟨.ref C,some dx,.plain,#[]⟩:=I.obj
 refine wpAny_bind (wpAny_pure (wpAny_bind (wpAny_bind (wpAny_loadPart hx (wpAny_bind (PySem.W.Looks.here (s:={ s with toks:=s.toks+1 }) (PySem.W.looks_clsIn X hc) ?_))))))
 rw [hd']
 refine wpAny_pure (a:=some dx) (wpAny_bind (wpAny_pure (wpAny_bind ?_)))
 refine wpAny_nsSet1 (s:={ s with toks:=s.toks+1 }) I.ns fun h' hn2 hs2=>?_
 obtain⟨oD,esD,epD,hoD,hdD,hcD⟩:=hn2.count (PySem.Within.cons name v hw)
 refine wpAny_bind (wpAny_lookBehind hoD (by rw [hdD];exact pastItsLine_dict (Nat.le_trans hcD (by rw [List.length_cons];omega))) ?_)
 exact wpAny_pure (h _ ⟨(hs2.2 _ (Ne.symm I.ne)).trans I.obj,hn2,I.ne⟩ hs2)
theorem At5 {R:Result->Shared->Prop}{vs:List Value}{kw:List (Str × Value)} (X:K.In s.heap) (hm:PySem.W.makesIn K C=true)
 (hi:PySem.W.findIn K (.ref C) "__init__"=some (some (.ref f))) (hf:PySem.W.typeIn K (.ref f)=some (.type "function"))
 (h:codeAny (model prog w) (A.under (.builtin "type.__call__" ⟨.ref C::vs,kw⟩)) (.call (.ref f) ⟨.ref (s.heap.objs.size+1)::vs,kw⟩) (PySem.W.InitBack (s.heap.objs.size+1) R)
   { s with heap:=(s.heap.push PySem.W.emptyDict).push (PySem.W.instObj C s.heap.objs.size) }) :
 codeAny (model prog w) A (.call (.ref C) ⟨vs,kw⟩) R s:=by
 obtain⟨hh,g,d,t,os⟩:=s
 exact PySem.W.make_core (PySem.W.makes_of X hm) (PySem.W.looks_findIn X hi) (fun self=>PySem.W.bind_fn X self hf) (.inl rfl) h
end
def putF (f:Str) (v:V):List (Str × V)->List (Str × V)
 | []=>[(f,v)]
 | (g,x)::r=>if g=f then (g,v)::r else (g,x)::putF f v r
theorem Gx (f g:Str) (v:V):∀ fs:List (Str × V),(putF f v fs).lookup g=if g=f then some v else fs.lookup g
 | []=>by
   show List.lookup g [(f,v)]=_
   by_cases h:g=f
   . have hb:(g==f)=true:=beq_iff_eq.mpr h
     simp only [List.lookup,hb,if_pos h]
   . have hb:(g==f)=false:=beq_eq_false_iff_ne.mpr h
     simp only [List.lookup,hb,if_neg h]
 | (k,x)::r=>by
   have ih:=Gx f g v r
   rw [show putF f v ((k,x)::r)=(if k=f then (k,v)::r else (k,x)::putF f v r) from rfl]
   by_cases hk:k=f
   . rw [if_pos hk]
     by_cases h:g=k
     . have hb:(g==k)=true:=beq_iff_eq.mpr h
       simp only [List.lookup,hb,if_pos (h.trans hk)]
     . have hb:(g==k)=false:=beq_eq_false_iff_ne.mpr h
       simp only [List.lookup,hb,if_neg (fun e:g=f=>h (e.trans hk.symm))]
   . rw [if_neg hk]
     by_cases h:g=k
     . have hb:(g==k)=true:=beq_iff_eq.mpr h
       simp only [List.lookup,hb,if_neg (fun e:g=f=>hk (h.symm.trans e))]
     . have hb:(g==k)=false:=beq_eq_false_iff_ne.mpr h
       simp only [List.lookup,hb]
       exact ih
theorem Pz (f:Str) (v:V):∀ fs:List (Str × V),f∈(putF f v fs).map (·.1)/\∀ g,g∈fs.map (·.1)->g∈(putF f v fs).map (·.1)
 | []=>⟨by simp [putF],fun g h=>by simp at h⟩
 | (k,x)::r=>by
   obtain⟨i1,i2⟩:=Pz f v r
   rw [show putF f v ((k,x)::r)=(if k=f then (k,v)::r else (k,x)::putF f v r) from rfl]
   by_cases hk:k=f
   . rw [if_pos hk]
     subst hk
     exact ⟨by simp,fun g h=>by simpa using h⟩
   . rw [if_neg hk]
     refine⟨?_,fun g h=>?_⟩
     . rw [List.map_cons]
       exact List.mem_cons_of_mem _ i1
     . rw [List.map_cons] at h ⊢
       rcases List.mem_cons.mp h with e | e
       . exact List.mem_cons.mpr (.inl e)
       . exact List.mem_cons_of_mem _ (i2 g e)
theorem K4 (f:Str) (v:V):∀ fs:List (Str × V),(putF f v fs).length<=fs.length+1
 | []=>by simp [putF]
 | (k,x)::r=>by
   have ih:=K4 f v r
   rw [show putF f v ((k,x)::r)=(if k=f then (k,v)::r else (k,x)::putF f v r) from rfl]
   by_cases hk:k=f
   . rw [if_pos hk,List.length_cons,List.length_cons];omega
   . rw [if_neg hk,List.length_cons,List.length_cons];omega
theorem RelO.some_of {v:V}{o:Option Value} (r:RelO (some v) o):∃ u,o=some u/\RelV v u:=by
 cases o with
 | none=>exact (show False from r).elim
 | some u=>exact ⟨u,rfl,r⟩
theorem RelO.none_of {o:Option Value} (r:RelO none o):o=none:=by
 cases o with
 | none=>rfl
 | some u=>exact (show False from r).elim
theorem Al1 {v:V}{u:Value} (r:RelV v u):PySem.W.handedIn u=true:=by
 cases v with
 | non=>cases (show u=Value.none from r);rfl
 | bl b=>cases (show u=Value.bool b from r);rfl
 | int i=>obtain⟨t,e⟩:=(show ∃ t,u=Value.int i t from r);cases e;rfl
 | str x=>obtain⟨t,e⟩:=(show ∃ t,u=Value.str x t from r);cases e;rfl
 | byt b=>obtain⟨t,e⟩:=(show ∃ t,u=Value.bytes b t from r);cases e;rfl
 | flt b=>obtain⟨t,e⟩:=(show ∃ t,u=Value.float b t from r);cases e;rfl
 | ref a=>cases (show u=Value.ref a from r);rfl
 | ty n=>cases (show u=Value.type n from r);rfl
section
variable {P:Program}{w:World}{H H':Hp}{h h':Heap}{a C dx:Addr}{fs fs':List (Str × V)}
theorem a9 (hok:HOk P w H h) (e:H a=some (.ins C dx fs)):∃ mA,ObjM h a dx C mA/\(∀ f,RelO (fs.lookup f) (mA f))/\PySem.Within mA (fs.map (·.1))/\fs.length<=1000/\H dx=some (.own a):=by
 obtain⟨d,z,ne,ob,mA,n,r,q⟩:=(show ObjOk P w H h a (.ins C dx fs) from hok a _ e)
 exact ⟨mA,⟨ob,n,ne⟩,r,q,z,d⟩
end
structure Cls (K:W.Frag) (C:Addr):Prop where
 pg:PySem.W.plainGet K C Str.empty=true
 hd:PySem.W.hasDictIn K C=true
 po:PySem.W.plainOver K C=true
 sa:PySem.W.findIn K (.ref C) "__setattr__"=some (some (.builtin "object.__setattr__"))
theorem Cls.get {K:W.Frag}{C:Addr} (c:Cls K C) (f:Str):PySem.W.plainGet K C f=true:=c.pg
def NoAttr (K:W.Frag) (C:Addr) (f:Str):Prop:=PySem.W.findIn K (.ref C) f=some none
theorem NoAttr.taker {K:W.Frag}{C:Addr}{f:Str} (n:NoAttr K C f):PySem.W.takerIn K C f=some none:=by
 unfold PySem.W.takerIn
 rw [show PySem.W.findIn K (.ref C) f=some none from n]
 rfl
structure Meth (K:W.Frag) (C:Addr) (m:Str) (f:Addr):Prop where
 at_:PySem.W.findIn K (.ref C) m=some (some (.ref f))
 fn:PySem.W.isFn K (.ref f)=true
 kp:PySem.W.keepIn K (.ref f)=true
section
variable {X:Cx}{Aa:List (Addr × Obj)}{σ:St}{H:Hp}{s:Shared}{a C dx:Addr}{fs:List (Str × V)}{f:Str}{v:V}{A:Around}{E:Value->Shared->Prop}
theorem Ac2 {b:Bool}{Q:Value->Shared->Prop} (I:Inv X Aa σ H s) (e:H a=some (.ins C dx fs)) (c:Cls X.K C) (n:NoAttr X.K C f) (l:fs.lookup f=some v)
 (h:∀ u s',Inv X Aa σ H s'->RelV v u->Q u s'):wpAny (model X.prog X.w) A (getAttr (.ref a) f b) Q E s:=by
 obtain⟨mA,O,r,_,_,_⟩:=a9 I.hok e
 obtain⟨u,hu,ru⟩:=RelO.some_of (v:=v) (o:=mA f) (by rw [←l];exact r f)
 exact A30 I.kIn O (c.get f) c.hd n hu (Al1 ru) (h u _ (I.tok _) ru)
theorem Sr {m:Str}{g:Addr}{pl:Sem Bool}{Q:Value × List Value->Shared->Prop} (I:Inv X Aa σ H s) (e:H a=some (.ins C dx fs)) (c:Cls X.K C) (k:Meth X.K C m g) (l:fs.lookup m=none)
 (h:Q (.ref g,[.ref a]) s):wpAny (model X.prog X.w) A (getMethod (.ref a) m pl) Q E s:=by
 obtain⟨mA,O,r,_,_,_⟩:=a9 I.hok e
 have hn:mA m=none:=RelO.none_of (by rw [←l];exact r m)
 exact Au2 I.kIn O (c.get m) k.at_ k.fn hn h
theorem x9 {y:V}{u:Value}{Q:Unit->Shared->Prop} (I:Inv X Aa σ H s) (e:H a=some (.ins C dx fs)) (c:Cls X.K C) (n:NoAttr X.K C f) (hl:fs.length<1000) (ry:RelV y u)
 (h:∀ s',Inv X Aa σ (upd H a (.ins C dx (putF f y fs))) s'->Q () s'):wpAny (model X.prog X.w) A (setAttr (.ref a) f u) Q E s:=by
 obtain⟨mA,O,r,wi,_,ho⟩:=a9 I.hok e
 have hz:(fs.map (·.1)).length<=sizeLine:=by rw [List.length_map,sizeLine_eq];omega
 refine Ay5 I.kIn O c.sa c.po n.taker c.hd wi hz fun h' O' sb=>h _ ?_
 have hd:∃ o,h'.get? dx=some o:=let ⟨o,_,_,e',_⟩:=O'.ns;⟨o,e'⟩
 refine I.write (x:=a) (e:=dx) (by rw [e];exact True.intro) (.inr ho) (fun b q hb z=>(sb.2 b hb).trans z) hd ?_
 refine⟨by rw [Ae O.ne];exact ho,?_,O.ne,O'.obj,_,O'.ns,fun g=>?_,fun g hg=>?_⟩
 . have:=K4 f y fs;omega
 . show RelO ((putF f y fs).lookup g) (if g=f then some u else mA g)
   rw [Gx]
   by_cases q:g=f
   . rw [if_pos q,if_pos q];exact ry
   . rw [if_neg q,if_neg q];exact r g
 . by_cases q:g=f
   . rw [q];exact (Pz f y fs).1
   . refine (Pz f y fs).2 g (wi g fun z=>hg ?_)
     show (if g=f then some u else mA g)=none
     rw [if_neg q];exact z
theorem Inv.made (I:Inv X Aa σ H s):Inv X Aa σ (upd (upd H s.heap.objs.size (.own (s.heap.objs.size+1))) (s.heap.objs.size+1) (.ins C s.heap.objs.size []))
 { s with heap:=(s.heap.push PySem.W.emptyDict).push (PySem.W.instObj C s.heap.objs.size) }:=by
 have e1:(s.heap.push PySem.W.emptyDict).get? s.heap.objs.size=some PySem.W.emptyDict:=Heap.get?_push_size s.heap rfl
 have e2:((s.heap.push PySem.W.emptyDict).push (PySem.W.instObj C s.heap.objs.size)).get? (s.heap.objs.size+1)=some (PySem.W.instObj C s.heap.objs.size):=by
  have:=Heap.get?_push_size (s.heap.push PySem.W.emptyDict) (o:=PySem.W.instObj C s.heap.objs.size) rfl
  rwa [Heap.size_push] at this
 have e3:(s.heap.push PySem.W.emptyDict).Ns s.heap.objs.size (fun _=>none):=⟨PySem.W.emptyDict,#[],_,e1,rfl,(fun e he=>absurd he (by simp)),fun _=>rfl⟩
 have I1:=I.laid (a:=s.heap.objs.size) (o:=.own (s.heap.objs.size+1)) (h':=s.heap.push PySem.W.emptyDict) (t':=s.toks) (fun b u q=>Heap.get?_push_of_some _ q) (Nat.le_refl _) ⟨_,e1⟩
 refine I1.laid (a:=s.heap.objs.size+1) (o:=.ins C s.heap.objs.size []) (t':=s.toks) (fun b u q=>Heap.get?_push_of_some _ q) (Nat.le_of_eq (Heap.size_push _ _)) ?_
 have ne:s.heap.objs.size≠s.heap.objs.size+1:=Nat.ne_of_lt (Nat.lt_succ_self _)
 refine⟨by rw [Ae ne,Ac],Nat.zero_le _,ne,e2,fun _=>none,(Heap.Ns1.of_empty e3).at fun o q=>Heap.get?_push_of_some _ q,fun _=>True.intro,fun y hy=>absurd rfl hy⟩
theorem A46 {prog:Program}{w:World}{env:Env}{e:Expr}{f:Str}{pos:Pos}{s:Shared}{Q:Value->Shared->Prop} (hb:attributeBase e f env (eval e env)=eval e env)
 (h:wpAny (model prog w) A (eval e env) (fun o s₁=>wpAny (model prog w) A (getAttr o f true) Q E s₁) E s):wpAny (model prog w) A (eval (.Attribute e f pos) env) Q E s :=
 Attribute_any_ h (by rw [arm_eval_Attribute,hb])
end
def tFld (K:W.Frag) (ta:TE) (f:Str):TE:=fun σ H Q=>ta σ H fun x H1=>∃ a C dx fs v,x=.ref a/\H1 a=some (.ins C dx fs)/\Cls K C/\NoAttr K C f/\fs.lookup f=some v/\Q v H1
def sFld (K:W.Frag) (ta tv:TE) (f:Str):TS:=fun D σ H=>tv σ H fun y H1=>ta σ H1 fun x H2=>∃ a C dx fs,x=.ref a/\H2 a=some (.ins C dx fs)/\Cls K C/\NoAttr K C f/\fs.length<1000 ∧
 D.nx σ (upd H2 a (.ins C dx (putF f y fs)))
section
variable {X:Cx}{o e value:Expr}{f:Str}{pos pos' tpos:Pos}{ta tv:TE}
theorem A78 (he:PE X e ta) (hb:attributeBase e f X.env (eval e X.env)=eval e X.env):PE X (.Attribute e f pos) (tFld X.K ta f):=by
 intro Aa s σ H Q I h
 refine A46 hb (thn (he Aa s σ H _ I h) fun u s1 ⟨x,H1,I1,rx,a,C,dx,fs,v,ex,ea,c,n,l,q⟩=>?_)
 subst ex
 obtain rfl:u=Value.ref a:=rx
 exact Ac2 I1 ea c n l fun u' s2 I2 ru=>⟨v,H1,I2,ru,q⟩
theorem A73 (ha:PE X o ta) (hv:PE X value tv) (hs:swapsWith value (some (.Attribute o f pos')) pos.line X.env=pure false):PS X (.Assign [.Attribute o f pos'] value pos) (sFld X.K ta tv f):=by
 intro Aa s σ H D I h
 refine plainObj_wpAny_Assign_Attribute (thn (hv Aa s σ H _ I h) fun u s1 ⟨y,H1,I1,ry,q⟩=>thn (ha Aa s1 σ H1 _ I1 q) fun ov s2 ⟨x,H2,I2,rx,a,C,dx,fs,ex,ea,c,n,l,q2⟩=>?_) hs
 subst ex
 obtain rfl:ov=Value.ref a:=rx
 exact x9 I2 ea c n l ry fun s3 I3=>⟨σ,_,I3,q2⟩
theorem A16 {pl:Sem Bool}{m:Str}{apos:Pos}{args:List Expr}{Aa:List (Addr × Obj)}{s:Shared}{σ:St}{H:Hp}{Q:Value->Shared->Prop}{te:TE} (he:PE X e te) (I:Inv X Aa σ H s)
 (h:te σ H fun x H1=>∃ a C dx fs g,x=.ref a/\H1 a=some (.ins C dx fs)/\Cls X.K C/\Meth X.K C m g/\fs.lookup m=none ∧
   ∀ s1,Inv X Aa σ H1 s1->wpAny (model X.prog X.w) X.A (callWith pos (.ref g) [.ref a] (backTo pos (starEach args X.env)) (backToKw pos (keywordEach [] X.env))) Q X.xe s1)
 (ht:eval (.Call (.Attribute e m apos) args [] pos) X.env=(do
   let ov ←eval e X.env
   standAt apos.atName
   let (f,first) ←holding [ov] (getMethod ov m pl)
   callWith pos f first (backTo pos (starEach args X.env)) (backToKw pos (keywordEach [] X.env)))) :
 wpAny (model X.prog X.w) X.A (eval (.Call (.Attribute e m apos) args [] pos) X.env) Q X.xe s:=by
 refine PySem.W.methodCall_KW (pl:=pl) (thn (he Aa s σ H _ I h) fun u s1 ⟨x,H1,I1,rx,a,C,dx,fs,g,ex,ea,c,k,l,q⟩=>?_) ht
 subst ex
 obtain rfl:u=Value.ref a:=rx
 exact Sr I1 ea c k l (q s1 I1)
end
section
variable {X:Cx}{Aa:List (Addr × Obj)}{σ:St}{H:Hp}{s:Shared}{A:Around}{E:Value->Shared->Prop}{Q:Value->Shared->Prop}{c:Value}{b:Bool}
end
end L2
namespace L2
open PySem PySem.Spec PyProof.Rows
structure Room (k:Nat) (A:Around):Prop where
 hd:A.handled=none
 dp:A.depth+3*k+5<recursionLimit
 un:A.units+16*k+200<cLine
 gd:A.guards=some []
theorem Room.mono {j k:Nat}{A:Around} (r:Room k A) (h:j<=k):Room j A:=⟨r.hd,by have:=r.dp;omega,by have:=r.un;omega,r.gd⟩
theorem Room.deeper {k:Nat}{A:Around} (r:Room (k+1) A) (env:Env):Room k (A.deeper env) :=
 ⟨r.hd,by have:=r.dp;show A.depth+1+3*k+5<_;omega,by have:=r.un;show A.units+3+16*k+200<_;omega,r.gd⟩
theorem Ab2 {A:Around}{C:Addr}{us:List Value}{kw:List (Str × Value)}:(A.under (.builtin "type.__call__" ⟨.ref C::us,kw⟩)).depth=A.depth+1:=by
 first | rfl | simp [Around.under,Code.weight,Code.isCreation,Code.isGuard,Code.isCaller,Code.frames,Code.isFrame,guardIds]
theorem Zx {A:Around}{C:Addr}{us:List Value}{kw:List (Str × Value)}:(A.under (.builtin "type.__call__" ⟨.ref C::us,kw⟩)).guards=A.guards:=by
 first | rfl | simp [Around.under,Code.weight,Code.isCreation,Code.isGuard,Code.isCaller,Code.frames,Code.isFrame,guardIds]
theorem Ab1 {A:Around}{C:Addr}{us:List Value}{kw:List (Str × Value)}:(A.under (.builtin "type.__call__" ⟨.ref C::us,kw⟩)).units=A.units+1:=by
 first | rfl | simp [Around.under,Code.cUnits,Code.frames,Code.isFrame]
theorem Room.make {k:Nat}{A:Around} (r:Room (k+1) A) (C:Addr) (us:List Value) (kw:List (Str × Value)):Room k (A.under (.builtin "type.__call__" ⟨.ref C::us,kw⟩)) :=
 ⟨r.hd,by have:=r.dp;rw [Ab2];omega,by have:=r.un;rw [Ab1];omega,by rw [Zx];exact r.gd⟩
theorem Room.depth {k:Nat}{A:Around} (r:Room k A):A.depth<recursionLimit:=by have:=r.dp;omega
theorem Room.units {k:Nat}{A:Around} (r:Room k A):A.units+64<cLine:=by have:=r.un;omega
def tNil:TA:=fun _ H Q=>Q [] H
def A62 (ta:TE) (tr:TA):TA:=fun σ H Q=>ta σ H fun x H1=>tr σ H1 fun xs H2=>Q (x::xs) H2
section
variable {X:Cx}{e:Expr}{es:List Expr}{te:TE}{t:TA}{pos:Pos}
theorem Ag:PA X [] tNil:=fun _ _ _ _ H Q I h=>Calls.spliced_nil ⟨[],H,I,.nil,h⟩
theorem Ab (ha:PE X e te) (hr:PA X es t) (hs:starEach (e::es) X.env=(false,eval e X.env)::starEach es X.env:=by rfl):PA X (e::es) (A62 te t):=by
 intro pos Aa s σ H Q I h
 rw [hs]
 show wpAny _ _ (spliced ((false,eval e X.env)::backTo pos (starEach es X.env))) _ _ s
 refine Calls.spliced_cons (thn (ha Aa s σ H _ I h) fun u s1 ⟨x,H1,I1,r1,q1⟩=>?_)
 exact thn (hr pos Aa s1 σ H1 _ I1 q1) fun us s2 ⟨xs,H2,I2,r2,q2⟩=>⟨x::xs,H2,I2,.cons r1 r2,q2⟩
def tTup (t:TA):TE:=fun σ H Q=>t σ H fun xs H1=>xs.length<=sizeLine/\∀ p,H1 p=none->Q (.ref p) (upd H1 p (.tup xs))
def tLst (t:TA):TE:=fun σ H Q=>t σ H fun xs H1=>xs.length<=sizeLine/\∀ p,H1 p=none->Q (.ref p) (upd H1 p (.lst xs))
theorem Ge {x1} (h:PA X es t):PE X (.Tuple es x1 pos) (tTup t):=by
 intro Aa s σ H Q I hq
 refine wpAny_Tuple_spliced (thn (h pos Aa s σ H _ I hq) fun us s1 ⟨xs,H1,I1,r,z,q⟩=>⟨by rw [←r.length];exact z,?_⟩)
 have hf:H1 s1.heap.objs.size=none:=I1.hok.fresh (Nat.le_refl _)
 refine⟨.ref s1.heap.objs.size,upd H1 s1.heap.objs.size (.tup xs),I1.laid (t':=s1.toks) (fun b u e=>Heap.get?_push_of_some _ e) (Nat.le_refl _) ?_,rfl,q _ hf⟩
 exact ⟨z,us,r,⟨_,Heap.get?_push_size _ rfl,rfl,rfl,_,rfl⟩⟩
theorem D0 (h:PA X es t):PE X (.List es pos) (tLst t):=by
 intro Aa s σ H Q I hq
 refine wpAny_List_spliced (thn (h pos Aa s σ H _ I hq) fun us s1 ⟨xs,H1,I1,r,z,q⟩=>⟨by rw [←r.length];exact z,?_⟩)
 have hf:H1 s1.heap.objs.size=none:=I1.hok.fresh (Nat.le_refl _)
 refine⟨.ref s1.heap.objs.size,upd H1 s1.heap.objs.size (.lst xs),I1.laid (t':=s1.toks) (fun b u e=>Heap.get?_push_of_some _ e) (Nat.le_refl _) ?_,rfl,q _ hf⟩
 exact ⟨z,us,0,r,Heap.get?_push_size _ rfl⟩
end
abbrev Sp:=List V->Hp->VK->XK->Prop
abbrev CXT:=List Env->Hp->Shared->XK->Value->Shared->Prop
structure Env0 (P:Program) (w:World) (K:W.Frag) (mg:Str->Option Value) (base:Heap) (A:Around) (outer:List Env) (s:Shared) (H:Hp):Prop where
 frames:A.frames=some outer
 mod:Mod K mg base
 bs:∀ b o,base.get? b=some o->s.heap.get? b=some o/\H b=none
 bsz:base.objs.size<=s.heap.objs.size
 funs:s.heap.FunFrames base outer
 frf:∀ b∈frs outer,H b=none
 hok:HOk P w H s.heap
 bare:AllBare s.gens
def CE (outer:List Env) (P:Program) (w:World) (H:Hp) (s:Shared) (Q:VK) (u:Value) (s':Shared):Prop :=
 ∃ v H',s'.os=s.os/\AllBare s'.gens/\Un (frs outer) [] H H' s.heap s'.heap/\HOk P w H' s'.heap/\RelV v u/\Q v H'
def CR (CX:CXT) (outer:List Env) (P:Program) (w:World) (H:Hp) (s:Shared) (Q:VK) (E:XK) (r:Result) (s':Shared):Prop :=
 match r with
 | .ok (.ret u)=>CE outer P w H s Q u s'
 | .ok _=>False
 | .error e=>CX outer H s E e s'
structure FnOk (P:Program) (w:World) (K:W.Frag) (mg:Str->Option Value) (base:Heap) (CX:CXT) (k:Nat) (f:Addr) (fd:FuncData) (ps:List Str) (sp:Sp):Prop where
 len:∀ vs H Q E,sp vs H Q E->vs.length=ps.length
 run:∀ (A:Around) (outer:List Env) (s:Shared) (H:Hp) (args:Args) (us:List Value) (vs:List V) (Q:VK) (E:XK),Room k A->Env0 P w K mg base A outer s H->BindsTo s fd args (ps.zip us)->Vals vs us->sp vs H Q E →
  codeAny (model P w) A (.call (.ref f) args) (CR CX outer P w H s Q E) s
theorem Env0.make {P:Program}{w:World}{K:W.Frag}{mg:Str->Option Value}{base:Heap}{A:Around}{outer:List Env}{s:Shared}{H:Hp} (e:Env0 P w K mg base A outer s H) (C:Addr) (us:List Value) (kw:List (Str × Value)) :
 Env0 P w K mg base (A.under (.builtin "type.__call__" ⟨.ref C::us,kw⟩)) outer s H:=⟨by first | exact e.frames | (simpa [Around.under,Code.envs,Code.isFrame,pushEnvs] using e.frames),e.mod,e.bs,e.bsz,e.funs,e.frf,e.hok,e.bare⟩
section
variable {X:Cx}{Aa:List (Addr × Obj)}{σ:St}{H:Hp}{s s':Shared}
theorem Inv.env0 (I:Inv X Aa σ H s):Env0 X.prog X.w X.K X.mg X.base X.A X.stack s H :=
 ⟨I.ok.frames,I.ok.mod,I.bs,Nat.le_trans I.ok.bsz I.sz,I.stack,I.stkFree,I.hok,I.bare⟩
theorem Inv.after {Q:VK}{u:Value} (I:Inv X Aa σ H s) (h:CE X.stack X.prog X.w H s Q u s'):EP X Aa σ Q u s':=by
 obtain⟨v,H',os,bare,un,hok,r,q⟩:=h
 obtain⟨hh,g,d,t,os'⟩:=s'
 obtain rfl:os'=s.os:=os
 exact ⟨v,H',I.call (h':=hh) (g':=g) (d':=d) (t':=t) (ch:=[]) un hok bare (fun b z=>absurd z (by simp)),r,q⟩
end
def tCall (sp:Sp) (dvs:List V) (E:XK) (t:TA):TE:=fun σ H Q=>t σ H fun vs H1=>sp (vs++dvs) H1 Q E
def A55 (C:Addr) (m:Str) (sp:Sp) (dvs:List V) (E:XK) (ta:TE) (t:TA):TE:=fun σ H Q=>ta σ H fun x H1=>∃ a dx fs,x=.ref a/\H1 a=some (.ins C dx fs)/\fs.lookup m=none ∧
 t σ H1 fun vs H2=>sp (x::(vs++dvs)) H2 Q E
def A56 (C:Addr) (sp:Sp) (dvs:List V) (E:XK) (t:TA):TE:=fun σ H Q=>t σ H fun vs H1=>∀ x dx,H1 x=none->H1 dx=none->dx≠x →
 sp (.ref x::(vs++dvs)) (upd (upd H1 dx (.own x)) x (.ins C dx [])) (fun v H2=>v=.non/\Q (.ref x) H2) E
def N1 (K:W.Frag) (fd:FuncData) (ps:List Str) (ds:List Value):Prop :=
 ∀ (s:Shared) (us:List Value),K.In s.heap->(us++ds).length=ps.length->BindsTo s fd ⟨us,[]⟩ (ps.zip (us++ds))
theorem N1.all {K:W.Frag}{fd:FuncData}{ps:List Str} (h:∀ us:List Value,us.length=ps.length->bindArgs fd ⟨us,[]⟩=pure (ps.zip us)):N1 K fd ps []:=fun s us _ hl=>by
 rw [List.append_nil] at hl ⊢
 exact .of_eq (h us hl)
def S9 (CX:CXT) (X:Cx) (E:XK):Prop:=∀ (Aa:List (Addr × Obj)) (σ:St) (H:Hp) (s:Shared) (e:Value) (s':Shared),Inv X Aa σ H s->CX X.stack H s E e s'->X.xe e s'
section
variable {X:Cx}{CX:CXT}{k:Nat}{f C:Addr}{fd:FuncData}{ps:List Str}{sp:Sp}{dvs:List V}{ds:List Value}{E:XK}{x m:Str}{p pos apos:Pos}{e o:Expr}{es:List Expr}{ta:TE}{t:TA}
theorem Av8 {Aa:List (Addr × Obj)}{σ:St}{H:Hp}{s:Shared}{Q:VK}{us:List Value}{vs:List V} (F:FnOk X.prog X.w X.K X.mg X.base CX k f fd ps sp) (hr:Room k X.A) (hb:N1 X.K fd ps ds) (hd:Vals dvs ds) (hx:S9 CX X E)
 (I:Inv X Aa σ H s) (r:Vals vs us) (h:sp (vs++dvs) H Q E):wpAny (model X.prog X.w) X.A (call (.ref f) us) (EP X Aa σ Q) X.xe s:=by
 have r2:Vals (vs++dvs) (us++ds):=r.append hd
 have hl:(us++ds).length=ps.length:=by rw [←r2.length];exact F.len _ _ _ _ h
 refine wpAny_call (codeAny_mono (F.run X.A X.stack s H ⟨us,[]⟩ (us++ds) (vs++dvs) Q E hr I.env0 (hb s us I.kIn hl) r2 h) fun r s' hq=>?_)
 cases r with
 | error e=>exact hx Aa σ H s e s' I hq
 | ok fl =>
   cases fl with
   | ret u=>exact I.after hq
   | next=>exact False.elim hq
   | brk=>exact False.elim hq
   | cont=>exact False.elim hq
theorem Az8 (F:FnOk X.prog X.w X.K X.mg X.base CX k f fd ps sp) (hr:Room k X.A) (hg:Gl X x) (hm:X.mg x=some (.ref f)) (hk:PySem.W.keepIn X.K (.ref f)=true) (hb:N1 X.K fd ps ds) (hd:Vals dvs ds) (hx:S9 CX X E)
 (ha:PA X (e::es) t) (hdb:(x==("__debug__":Str))=false:=by decide) (he:starEach (e::es) X.env=(false,eval e X.env)::starEach es X.env:=by rfl) (hpl:(backTo pos (starEach es X.env)).any (·.1)=false:=by rfl) :
 PE X (.Call (.Name x p) (e::es) [] pos) (tCall sp dvs E t):=by
 intro Aa s σ H Q I h
 refine wpAny_Call_Name_kw (Z0 I hg hm ?_ hdb)
 refine PySem.W.callWith_K (h₀:=X.base) I.ok.mod.kin hk (thn (ha pos Aa s σ H _ I h) fun us s1 ⟨vs,H1,I1,r,q⟩=>⟨I1.kIn,?_⟩) he hpl
 exact Av8 F hr hb hd hx I1 r q
theorem Az6 {pl:Sem Bool} (he:PE X o ta) (c:Cls X.K C) (hm:Meth X.K C m f) (F:FnOk X.prog X.w X.K X.mg X.base CX k f fd ps sp) (hr:Room k X.A) (hb:N1 X.K fd ps ds) (hd:Vals dvs ds) (hx:S9 CX X E) (ha:PA X (e::es) t)
 (hst:starEach (e::es) X.env=(false,eval e X.env)::starEach es X.env:=by rfl) (hpl:(backTo pos (starEach es X.env)).any (·.1)=false:=by rfl)
 (ht:eval (.Call (.Attribute o m apos) (e::es) [] pos) X.env=(do
   let ov ←eval o X.env
   standAt apos.atName
   let (f,first) ←holding [ov] (getMethod ov m pl)
   callWith pos f first (backTo pos (starEach (e::es) X.env)) (backToKw pos (keywordEach [] X.env))):=by rfl) :
 PE X (.Call (.Attribute o m apos) (e::es) [] pos) (A55 C m sp dvs E ta t):=by
 intro Aa s σ H Q I h
 refine PySem.W.methodCall_KW (pl:=pl) (thn (he Aa s σ H _ I h) fun u s1 ⟨x,H1,I1,rx,a,dx,fs,ex,ea,l,q⟩=>?_) ht
 subst ex
 obtain rfl:u=Value.ref a:=rx
 refine Sr I1 ea c hm l ?_
 refine PySem.W.callWith_K (first:=[.ref a]) (h₀:=X.base) I.ok.mod.kin hm.kp (thn (ha pos Aa s1 σ H1 _ I1 q) fun us s2 ⟨vs,H2,I2,r,q2⟩=>⟨I2.kIn,?_⟩) hst hpl
 exact Av8 (us:=.ref a::us) (vs:=.ref a::vs) F hr hb hd hx I2 (.cons rfl r) q2
structure Mk (K:W.Frag) (C f:Addr):Prop where
 makes:PySem.W.makesIn K C=true
 init:PySem.W.findIn K (.ref C) "__init__"=some (some (.ref f))
 fn:PySem.W.isFn K (.ref f)=true
 kp:PySem.W.keepIn K (.ref C)=true
theorem Aq9 {Aa:List (Addr × Obj)}{σ:St}{H:Hp}{s:Shared}{Q:VK}{us:List Value}{vs:List V} (M:Mk X.K C f) (F:FnOk X.prog X.w X.K X.mg X.base CX k f fd ps sp) (hr:Room (k+1) X.A) (hb:N1 X.K fd ps ds) (hd:Vals dvs ds)
 (hx:S9 CX X E) (I:Inv X Aa σ H s) (r:Vals vs us)
 (h:∀ x dx,H x=none->H dx=none->dx≠x->sp (.ref x::(vs++dvs)) (upd (upd H dx (.own x)) x (.ins C dx [])) (fun v H2=>v=.non/\Q (.ref x) H2) E) :
 wpAny (model X.prog X.w) X.A (call (.ref C) us) (EP X Aa σ Q) X.xe s:=by
 have hq:=h (s.heap.objs.size+1) s.heap.objs.size (I.hok.fresh (Nat.le_succ _)) (I.hok.fresh (Nat.le_refl _)) (Nat.ne_of_lt (Nat.lt_succ_self _))
 have I2:=Inv.made (C:=C) I
 have r2:Vals (V.ref (s.heap.objs.size+1)::(vs++dvs)) (Value.ref (s.heap.objs.size+1)::(us++ds)):=.cons rfl (r.append hd)
 have hl:(Value.ref (s.heap.objs.size+1)::us++ds).length=ps.length:=by
  have e:=r2.length
  rw [F.len _ _ _ _ hq] at e
  exact e.symm
 refine wpAny_call (At5 (f:=f) I.kIn M.makes M.init (beq_iff_eq.mp M.fn) (codeAny_mono (F.run _ X.stack _ _ ⟨Value.ref (s.heap.objs.size+1)::us,[]⟩ (Value.ref (s.heap.objs.size+1)::(us++ds)) _ _ E (hr.make C us [])
  (I2.env0.make C us []) (hb _ (Value.ref (s.heap.objs.size+1)::us) I2.kIn hl) r2 hq) fun r s' hq'=>?_))
 cases r with
 | error e=>exact hx Aa σ _ _ e s' I2 hq'
 | ok fl =>
   cases fl with
   | ret u =>
     obtain⟨v,H',I3,rv,ev,q3⟩:=I2.after hq'
     subst ev
     exact ⟨rv,⟨V.ref (s.heap.objs.size+1),H',I3,rfl,q3⟩⟩
   | next=>exact False.elim hq'
   | brk=>exact False.elim hq'
   | cont=>exact False.elim hq'
theorem Az7 (M:Mk X.K C f) (F:FnOk X.prog X.w X.K X.mg X.base CX k f fd ps sp) (hr:Room (k+1) X.A) (hg:Gl X x) (hm:X.mg x=some (.ref C)) (hb:N1 X.K fd ps ds) (hd:Vals dvs ds) (hx:S9 CX X E)
 (ha:PA X (e::es) t) (hdb:(x==("__debug__":Str))=false:=by decide) (he:starEach (e::es) X.env=(false,eval e X.env)::starEach es X.env:=by rfl) (hpl:(backTo pos (starEach es X.env)).any (·.1)=false:=by rfl) :
 PE X (.Call (.Name x p) (e::es) [] pos) (A56 C sp dvs E t):=by
 intro Aa s σ H Q I h
 refine wpAny_Call_Name_kw (Z0 I hg hm ?_ hdb)
 refine PySem.W.callWith_K (h₀:=X.base) I.ok.mod.kin M.kp (thn (ha pos Aa s σ H _ I h) fun us s1 ⟨vs,H1,I1,r,q⟩=>⟨I1.kIn,?_⟩) he hpl
 exact Aq9 M F hr hb hd hx I1 r q
end
section
variable {X:Cx}{CX:CXT}{k:Nat}{f C:Addr}{fd:FuncData}{ps ks:List Str}{sp:Sp}{E:XK}{x m:Str}{p pos apos kpos:Pos}{e o:Expr}{es:List Expr}{kws:List Keyword}{te ta:TE}{t tk:TA}{nm:Option Str}
variable {g:List Value->List Value->List Value}{gV:List V->List V->List V}
end
structure FnScope (N P:List Str) (sc:Scope):Prop where
 kind:sc.kind=.function
 co:sc.isCoroutine=false
 gen:sc.isGenerator=false
 nd:N.Nodup
 pre:N.take P.length=P
 par:∀ x∈P,sc.names.lookup x=some .local\/sc.names.lookup x=some .cell
 nofree:∀ y∈sc.names,y.2≠.free
theorem Xx {kindOf:Str->Option NameKind}{x:Str}:∀{binds:List (Str × Value)}{m:Str->Option Value},(∀ v,(x,v) ∉ binds)->bindL kindOf binds m x=m x
 | [],_,_=>rfl
 | (n,v)::r,m,h=>by
   unfold bindL
   rw [Xx fun w hw=>h w (List.mem_cons_of_mem _ hw)]
   split
   . have:x≠n:=by rintro rfl;exact h v List.mem_cons_self
     simp [this]
   . rfl
theorem Xz {kindOf:Str->Option NameKind}{x:Str}:∀{binds:List (Str × Value)}{m:Str->Option Value},(∀ v,(x,v) ∉ binds)->bindC kindOf binds m x=m x
 | [],_,_=>rfl
 | (n,v)::r,m,h=>by
   unfold bindC
   rw [Xz fun w hw=>h w (List.mem_cons_of_mem _ hw)]
   split
   . rfl
   . have:x≠n:=by rintro rfl;exact h v List.mem_cons_self
     simp [this]
theorem Xy {kindOf:Str->Option NameKind}{x:Str}{v:Value}:∀{P:List Str}{vs:List Value}{i:Nat}{m:Str->Option Value},P.Nodup->P[i]?=some x->vs[i]?=some v->kindOf x=some .local →
 bindL kindOf (P.zip vs) m x=some v
 | [],_,_,_,_,h,_,_=>by simp at h
 | _::_,[],_,_,_,_,h,_=>by simp at h
 | p::P,w::vs,0,m,nd,h1,h2,hk=>by
   simp at h1 h2;subst h1;subst h2
   show bindL kindOf ((p,w)::P.zip vs) m p=_
   unfold bindL
   rw [Xx fun v hv=>(List.nodup_cons.mp nd).1 (List.of_mem_zip hv).1,if_pos hk]
   simp
 | p::P,w::vs,i+1,m,nd,h1,h2,hk=>by
   show bindL kindOf ((p,w)::P.zip vs) m x=_
   unfold bindL
   exact Xy (i:=i) (List.nodup_cons.mp nd).2 (by simpa using h1) (by simpa using h2) hk
theorem X0 {kindOf:Str->Option NameKind}{x:Str}{v:Value}:∀{P:List Str}{vs:List Value}{i:Nat}{m:Str->Option Value},P.Nodup->P[i]?=some x->vs[i]?=some v->kindOf x≠some .local →
 bindC kindOf (P.zip vs) m x=some v
 | [],_,_,_,_,h,_,_=>by simp at h
 | _::_,[],_,_,_,_,h,_=>by simp at h
 | p::P,w::vs,0,m,nd,h1,h2,hk=>by
   simp at h1 h2;subst h1;subst h2
   show bindC kindOf ((p,w)::P.zip vs) m p=_
   unfold bindC
   rw [Xz fun v hv=>(List.nodup_cons.mp nd).1 (List.of_mem_zip hv).1,if_neg hk]
   simp
 | p::P,w::vs,i+1,m,nd,h1,h2,hk=>by
   show bindC kindOf ((p,w)::P.zip vs) m x=_
   unfold bindC
   exact X0 (i:=i) (List.nodup_cons.mp nd).2 (by simpa using h1) (by simpa using h2) hk
def start (N:List Str) (vs:List V):St:=vs.map some++List.replicate (N.length-vs.length) none
def cxOf (CX:CXT) (P:Program) (w:World) (K:W.Frag) (mg:Str->Option Value) (base:Heap) (N:List Str) (qual:Str) (scope:Scope) (f:Addr) (cd:Value) (A:Around) (outer:List Env) (s:Shared) (H:Hp) (E:XK):Cx where
 prog:=P
 w:=w
 K:=K
 mg:=mg
 base:=base
 A:=A.deeper (envOfC qual scope s.heap.objs.size f cd)
 N:=N
 s₀:=s
 H₀:=H
 env:=envOfC qual scope s.heap.objs.size f cd
 outer:=outer
 stack:=envOfC qual scope s.heap.objs.size f cd::outer
 ex:=[]
 calm:=true
 fn:=fun _=>true
 pn:=[]
 xe:=fun e s'=>wpAny (model P w) (A.deeper (envOfC qual scope s.heap.objs.size f cd)) (leaving (envOfC qual scope s.heap.objs.size f cd) e) (fun _ s''=>CX outer H s E e s'') (fun e' s''=>CX outer H s E e' s'') s'
theorem q9 {sc:Scope}{n:Nat}{x:Str} (h:sc.names.lookup x=some .cell):∃ c,(cellsFrom n sc.names []).lookup x=some c:=by
 have q:=PySem.W.cellsFrom_some sc.names n [] (.inl h)
 exact Option.isSome_iff_exists.mp q
theorem Ak8 {CX:CXT}{P:Program}{w:World}{K:W.Frag}{mg:Str->Option Value}{base:Heap}{N ps:List Str}{qual:Str}{scope:Scope}{f:Addr}{cd:Value}{A:Around}{outer:List Env}{s s1:Shared}{H:Hp}{E:XK}{us:List Value}{vs:List V}
 (S:FnScope N ps scope) (hd:A.handled=none) (e0:Env0 P w K mg base A outer s H) (hl:vs.length=ps.length) (r:Vals vs us)
 (x:InCallC s s.heap.objs.size (bindL (envOfC qual scope s.heap.objs.size f cd).kindOf (ps.zip us) fun _=>none) (cellsFrom (s.heap.objs.size+1) scope.names []) (bindC (envOfC qual scope s.heap.objs.size f cd).kindOf (ps.zip us) fun _=>none) s1) :
 Inv (cxOf CX P w K mg base N qual scope f cd A outer s H E) [] (start N vs) H s1:=by
 have hpl:ps.length<=N.length:=by have:=congrArg List.length S.pre;rw [List.length_take] at this;omega
 obtain⟨h1,tk,rfl,hk⟩:=x.done
 have noA:∀ b:Addr,b ∉ (cxOf CX P w K mg base N qual scope f cd A outer s H E).ex:=fun b z=>absurd (show b∈([]:List Addr) from z) (by simp)
 refine⟨⟨e0.mod,S.kind,rfl,rfl,Nat.le_refl _,fun y z c h1 h2=>?_,fun y hy=>?_,fun y c _ h=>?_,fun _=>hd,Around.frames_deeper e0.frames,.inr ⟨rfl,rfl⟩,fun b z=>absurd z (noA b),e0.bs,e0.bsz,fun b _ _=>noA b,fun b z=>absurd z (noA b),e0.funs,e0.frf⟩,
  rfl,e0.bare,Un.kept hk,⟨_,x.toInCall.ns,fun i y v h1 h2 h3=>?_⟩,fun y c h=>⟨_,x.cell y c h⟩,e0.hok.fresh (Nat.le_refl _),fun y c h=>?_,fun p hp=>absurd (show p∈([]:List (Addr × Obj)) from hp) (by simp),e0.hok.kept hk,?_⟩
 . exact name_of_addr x.apart (PySem.mem_of_lookup h1) (PySem.mem_of_lookup h2)
 . have hy:scope.names.lookup y=some .cell\/scope.names.lookup y=some .free:=hy
   rcases hy with hy | hy
   . exact q9 hy
   . exact absurd rfl (S.nofree _ (PySem.mem_of_lookup hy))
 . exact Nat.le_of_lt (x.above y c (PySem.mem_of_lookup h))
 . have hi:i<vs.length:=by
    unfold start at h2
    by_cases hi:i<vs.length
    . exact hi
    . rw [List.getElem?_append_right (by simpa using hi)] at h2
      rw [List.getElem?_replicate] at h2
      split at h2<;>cases h2
   have ha:vs[i]?=some v:=by
    unfold start at h2
    rw [List.getElem?_append_left (by simpa using hi),List.getElem?_map] at h2
    cases e:vs[i]? with
    | none=>rw [e] at h2;cases h2
    | some a=>rw [e] at h2;cases h2;rfl
   obtain⟨u,hu,rv⟩:=r.get ha
   have hp:ps[i]?=some y:=by
    rw [←S.pre,List.getElem?_take_of_lt (by omega)];exact h1
   have ndP:ps.Nodup:=by rw [←S.pre];exact S.nd.sublist (List.take_sublist _ _)
   refine⟨u,rv,?_⟩
   rcases S.par y (List.mem_of_getElem? hp) with k | k
   . exact .inl ⟨k,Xy ndP hp hu k⟩
   . obtain⟨c,e⟩:=q9 (n:=s.heap.objs.size+1) k
     refine .inr ⟨.inl k,c,e,?_⟩
     have q:=x.cell y c e
     rw [X0 ndP hp hu (by show scope.names.lookup y≠_;rw [k];decide)] at q
     exact q
 . exact e0.hok.fresh (Nat.le_of_lt (x.above y c (PySem.mem_of_lookup h)))
 . unfold start
   show _=N.length
   rw [List.length_append,List.length_map,List.length_replicate]
   omega
theorem Bb5 {CX:CXT}{P:Program}{w:World}{K:W.Frag}{mg:Str->Option Value}{base:Heap}{k:Nat}{f:Addr}{name qual:Str}{params:Arguments}{body:List Stmt}{scope:Scope}{dV kV doc pm Bo ct oc:Value}{an od:Option Addr}
 {osl:Array (Option Value)}{N ps:List Str}{sp:Sp} (lk:K.lookup f=some ⟨oc,od,.func (PySem.W.fnOf name qual params body scope dV kV doc pm an Bo ct),osl⟩) (hcd:PySem.W.codeIn K Bo qual=true) (S:FnScope N ps scope)
 (len:∀ vs H Q E,sp vs H Q E->vs.length=ps.length)
 (hbody:∀ (A:Around) (outer:List Env) (s:Shared) (H:Hp) (vs:List V) (Q:VK) (E:XK),Room k (A.deeper (envOfC qual scope s.heap.objs.size f Bo))->sp vs H Q E →
   ∃ t,PSs (cxOf CX P w K mg base N qual scope f Bo A outer s H E) body t/\t { nx:=fun _ H'=>Q .non H',rt:=Q } (start N vs) H) :
 FnOk P w K mg base CX (k+1) f (PySem.W.fnOf name qual params body scope dV kV doc pm an Bo ct) ps sp:=by
 refine⟨len,fun A outer s H args us vs Q E hr e0 hb r hsp=>?_⟩
 have hl:=len _ _ _ _ hsp
 have KX:K.In s.heap:=e0.mod.kin.keeps fun b o e=>(e0.bs b o e).1
 have lim:s.heap.NoLimit:=e0.mod.nolimit.keeps fun b o e=>(e0.bs b o e).1
 have hkind:∀ y∈ps.zip us,scope.names.lookup y.1=some .local\/(scope.names.lookup y.1=some .cell/\((cellsFrom (s.heap.objs.size+1) scope.names []).lookup y.1).isSome=true):=fun ⟨n,v⟩ hy=>by
  rcases S.par n (List.of_mem_zip hy).1 with q | q
  . exact .inl q
  . exact .inr ⟨q,PySem.W.cellsFrom_some _ _ _ (.inl q)⟩
 refine codeAny_call_function hr.depth (KX _ _ lk) rfl S.co S.gen rfl (PySem.W.codeRec_of KX hcd) (hb _ _ _ _ ?_)
 refine wpAny_newFunctionEnv_cells S.kind hkind fun env he s1 x=>?_
 subst he
 refine⟨lim.keeps x.toInCall.keep,codeAny_func ?_⟩
 obtain⟨t,ht,hq⟩:=hbody A outer s H vs Q E (hr.deeper _) hsp
 have I:Inv (cxOf CX P w K mg base N qual scope f Bo A outer s H E) [] (start N vs) H s1:=Ak8 S hr.hd e0 hl r x
 refine wpAny_mono (ht [] s1 (start N vs) H _ I hq) (fun fl s' hs=>?_) fun e s' hs=>hs
 have fin:∀{σ':St}{H':Hp}{v:V}{u:Value},Inv (cxOf CX P w K mg base N qual scope f Bo A outer s H E) [] σ' H' s'->RelV v u->Q v H'->CE outer P w H s Q u s' :=
  fun {σ' H' v u} J rv q=>⟨v,H',J.os,J.bare,J.base,J.hok,rv,q⟩
 cases fl with
 | ret u =>
   obtain⟨v,σ',H',J,rv,q⟩:=hs
   exact fin J rv q
 | next =>
   obtain⟨σ',H',J,q⟩:=hs
   exact fin (v:=V.non) (u:=Value.none) J rfl q
 | brk =>
   obtain⟨_,_,_,q⟩:=hs
   exact False.elim q
 | cont =>
   obtain⟨_,_,_,q⟩:=hs
   exact False.elim q
end L2
namespace L2
open PySem PySem.Spec PyProof.Rows
section
variable {X:Cx}{x:Str}{p pos:Pos}{e:Expr}{es:List Expr}{t:TA}{id T:String}{r:List V->Hp->VK->Prop}
def tCB (r:List V->Hp->VK->Prop) (t:TA):TE:=fun σ H Q=>t σ H fun vs H1=>r vs H1 Q
theorem An (hc:Du X (.builtin id) r) (hg:Gl X x) (hm:X.mg x=none) (hv:bootBuiltins x=some (.builtin id)) (ha:PA X (e::es) t) (hn:x≠"__name__":=by decide) (hdb:(x==("__debug__":Str))=false:=by decide)
 (he:starEach (e::es) X.env=(false,eval e X.env)::starEach es X.env:=by rfl) (hpl:(backTo pos (starEach es X.env)).any (·.1)=false:=by rfl):PE X (.Call (.Name x p) (e::es) [] pos) (tCB r t):=by
 intro Aa s σ H Q I h
 refine wpAny_Call_Name_kw (N5 I hg hm hv ?_ hn hdb)
 exact PyProof.Rows.callWith_builtin1 (thn (ha pos Aa s σ H _ I h) fun us s1 ⟨vs,H1,I1,r1,q1⟩=>hc Aa s1 σ H1 vs us Q I1 r1 q1) he hpl
theorem B4 (hc:Du X (.type T) r) (hg:Gl X x) (hm:X.mg x=none) (hv:bootBuiltins x=some (.type T)) (ha:PA X (e::es) t) (hn:x≠"__name__":=by decide) (hdb:(x==("__debug__":Str))=false:=by decide)
 (he:starEach (e::es) X.env=(false,eval e X.env)::starEach es X.env:=by rfl) (hpl:(backTo pos (starEach es X.env)).any (·.1)=false:=by rfl):PE X (.Call (.Name x p) (e::es) [] pos) (tCB r t):=by
 intro Aa s σ H Q I h
 refine wpAny_Call_Name_kw (N5 I hg hm hv ?_ hn hdb)
 exact PyProof.Rows.callWith_type1 (thn (ha pos Aa s σ H _ I h) fun us s1 ⟨vs,H1,I1,r1,q1⟩=>hc Aa s1 σ H1 vs us Q I1 r1 q1) he hpl
end
end L2
namespace HT
open PySem PyProof.Rows
section
open PySem.SeqAt
open PySem.AutoSeq1 (wpAny_loadPart')
open PySem.MeetsSeq PySem.MeetsSeq2 PySem.MeetsSeq3
end
section
variable {prog:Program}{w:World}{A:Around}{E:Value->Shared->Prop}{s:Shared}
theorem cat_tup {t b:Addr}{vs ws:List Value}{Q:Value->Shared->Prop} (ht:IsTup s.heap t vs.toArray) (hb:IsTup s.heap b ws.toArray) (hv:vs≠[])
 (h1:ws=[]->Q (.ref t) s) (h2:ws≠[]->Q (.ref s.heap.objs.size) { s with heap:=s.heap.push { cls:=.type "tuple",data:=.seq (vs++ws).toArray } })
 (hsz:vs.length+ws.length<=sizeLine):wpAny (model prog w) A (binaryOp .Add (.ref t) (.ref b)) Q E s:=by
 obtain⟨⟨cls,dd,data,sl⟩,ho,hc,n,hd⟩:=id ht
 obtain⟨⟨cls2,dd2,data2,sl2⟩,ho2,hc2,n2,hd2⟩:=id hb
 simp only at hc hd hc2 hd2
 subst hc hd hc2 hd2
 have e:vs.toArray++ws.toArray=(vs++ws).toArray:=by simp
 by_cases hw:ws=[]
 . exact concat_meets ⟨_,ho,rfl⟩ ⟨_,ho2,rfl⟩ noFill_tuple_add seq_tuple_add PySem.F.slot_tuple_add PySem.F.entry_tuple_add (PySem.F.args_tuple_add_2 _ _)
    (tuple_addW1 t b vs.toArray ws.toArray n n2 dd dd2 sl sl2 (by simpa using hv) (by simp [hw])) ⟨ho,ho2,h1 hw⟩
 . refine concat_meets ⟨_,ho,rfl⟩ ⟨_,ho2,rfl⟩ noFill_tuple_add seq_tuple_add PySem.F.slot_tuple_add PySem.F.entry_tuple_add (PySem.F.args_tuple_add_2 _ _)
    (tuple_addW2 t b vs.toArray ws.toArray n n2 dd dd2 sl sl2 (by simpa using hv) (by simpa using hw) (by rw [List.size_toArray,List.size_toArray];exact hsz)) ⟨ho,ho2,?_⟩
   rw [e]
   exact h2 hw
def sIx (n d:Nat):Option Int->Nat
 | none=>d
 | some v=>if v<0 then (v+(n:Int)).toNat else min v.toNat n
theorem sIx_none (n d:Nat):sIx n d none=d:=rfl
theorem sIx_nat (n d k:Nat):sIx n d (some (k:Int))=min k n:=by
 show (if (k:Int)<0 then ((k:Int)+(n:Int)).toNat else min (k:Int).toNat n)=min k n
 rw [if_neg (by omega),Int.toNat_natCast]
theorem A69 (n d:Nat) (hd:d<=n) (o:Option Int):sIx n d o<=n:=by
 cases o with
 | none=>exact hd
 | some v =>
   show (if v<0 then (v+(n:Int)).toNat else min v.toNat n)<=n
   by_cases hv:v<0
   . rw [if_pos hv];omega
   . rw [if_neg hv];exact Nat.min_le_right _ _
theorem Ao1 (v:Int) (n d:Nat):(if v<0 then max (v+(n:Int)) 0 else min v (n:Int))=((sIx n d (some v):Nat):Int):=by
 show (if v<0 then max (v+(n:Int)) 0 else min v (n:Int))=(((if v<0 then (v+(n:Int)).toNat else min v.toNat n):Nat):Int)
 by_cases hv:v<0
 . simp only [if_pos hv];omega
 . simp only [if_neg hv];omega
theorem Ae5 (lo hi:Option Int) (n:Nat):Builtin.Slice.sliceAdjust lo hi 1 (n:Int)=(((sIx n 0 lo:Nat):Int),((sIx n n hi:Nat):Int)):=by
 have h1:¬((1:Int)<0):=by omega
 unfold Builtin.Slice.sliceAdjust
 simp only [h1,if_false]
 refine Prod.ext ?_ ?_
 . cases lo with
   | none=>rfl
   | some v=>exact Ao1 v n 0
 . cases hi with
   | none=>rfl
   | some v=>exact Ao1 v n n
theorem z7 (i j:Nat):Builtin.Slice.slicePlaces (i:Int) (j:Int) 1=j-i:=by
 unfold Builtin.Slice.slicePlaces
 have h1:(1:Int) > 0:=by omega
 simp only [h1,if_true,Int.ediv_one]
 split<;>omega
theorem So {v:Value}{o:Option Int}{Q:Option Int->Shared->Prop} (p:IsPart v o) (h:Q o s):wpAny (model prog w) A (Builtin.Slice.slicePartIndex v) Q E s:=by
 cases p with
 | none=>exact slicePart_none h
 | int i t=>exact slicePart_int h
theorem Of {sl:Addr}{vl vu:Value}{lo hi:Option Int}{n:Nat}{Q:Int × Int × Nat->Shared->Prop} (hs:s.heap.IsSliceOf sl vl vu .none) (pl:IsPart vl lo) (pu:IsPart vu hi)
 (h:Q (((sIx n 0 lo:Nat):Int),1,sIx n n hi-sIx n 0 lo) s):wpAny (model prog w) A (Builtin.Slice.sliceApplied (.ref sl) (pure (n:Int))) Q E s:=by
 obtain⟨os,hos,hcs,hds⟩:=id hs
 unfold Builtin.Slice.sliceApplied Builtin.Slice.sliceFields
 refine wpAny_bind (wpAny_bind (wpAny_field hos hds (x:=vl) rfl (wpAny_bind (wpAny_field hos hds (x:=vu) rfl (wpAny_bind (wpAny_field hos hds (x:=.none) rfl (wpAny_pure ?_)))))))
 refine wpAny_bind (slicePart_none ?_)
 show wpAny _ _ (if ((1:Int)==0)=true then _ else _) _ _ s
 rw [if_neg (by decide)]
 refine wpAny_bind (So pl (wpAny_bind (So pu (wpAny_bind (wpAny_pure ?_)))))
 show wpAny _ _ (match Builtin.Slice.sliceAdjust lo hi 1 (n:Int) with | (lo,hi)=>pure (lo,(1:Int),Builtin.Slice.slicePlaces lo hi 1)) _ _ s
 rw [Ae5 lo hi n]
 show wpAny _ _ (pure (((sIx n 0 lo:Nat):Int),(1:Int),Builtin.Slice.slicePlaces ((sIx n 0 lo:Nat):Int) ((sIx n n hi:Nat):Int) 1)) _ _ s
 rw [z7]
 exact wpAny_pure h
theorem Ar5 (xs:Array Value) (i k:Nat):((List.range k).filterMap fun (m:Nat)=>xs[((i:Int)+(m:Int)*1).toNat]?).toArray=((xs.toList.drop i).take k).toArray:=by
 have e:(fun (m:Nat)=>xs[((i:Int)+(m:Int)*1).toNat]?)=fun m=>xs[i+m]?:=by
  funext m
  have:((i:Int)+(m:Int)*1).toNat=i+m:=by omega
  rw [this]
 rw [e]
 have:=pick_run xs i k
 rw [List.filterMap_map] at this
 have e2:((fun x=>xs[x]?) ∘ fun x=>i+x)=fun m=>xs[i+m]?:=rfl
 rw [e2] at this
 rw [this]
theorem getItem_tuple_cut {t sl:Addr}{items:Array Value}{vl vu:Value}{lo hi:Option Int}{Q:Value->Shared->Prop} (ht:IsTup s.heap t items) (hs:s.heap.IsSliceOf sl vl vu .none) (pl:IsPart vl lo) (pu:IsPart vu hi)
 (hw:¬(sIx items.size 0 lo=0/\sIx items.size items.size hi=items.size))
 (h:Q (.ref s.heap.objs.size) { s with heap:=s.heap.push { cls:=.type "tuple",data:=.seq ((items.toList.drop (sIx items.size 0 lo)).take (sIx items.size items.size hi-sIx items.size 0 lo)).toArray } })
 (hsz:items.size<=sizeLine):wpAny (model prog w) A (getItem (.ref t) (.ref sl)) Q E s:=by
 have htake:sizeOk (.seq ((items.toList.drop (sIx items.size 0 lo)).take (sIx items.size items.size hi-sIx items.size 0 lo)).toArray):=by
  show ((items.toList.drop (sIx items.size 0 lo)).take (sIx items.size items.size hi-sIx items.size 0 lo)).toArray.size<=sizeLine
  rw [List.size_toArray,List.length_take,List.length_drop,Array.length_toList]
  omega
 have hj:sIx items.size items.size hi<=items.size:=A69 _ _ (Nat.le_refl _) hi
 obtain⟨os,hos,hcs,hds⟩:=id hs
 have hTs:s.TypeIs (.ref sl) "slice":=⟨os,hos,hcs⟩
 unfold getItem
 try with_reducible refine wpAny_holding ?_
 first | refine wpAny_bind (wpAny_pure ?_) | skip
 refine wpAny_bind (wpAny_sequenceKey ht.typeIs (by decide) ?_)
 refine wpAny_bind (wpAny_callSpecial?_slot (name:=Str.ofString "__getitem__") ht.typeIs PyProof.Rows.slot_tuple_getitem
  (wpAny_call_entry PyProof.Rows.slot_tuple_getitem ht.typeIs entry_tuple_getitem ?_ (args_tuple_getitem _ _)))
 show wpAny _ _ (Builtin.Tuple.tupleItemsOf (.ref t)>>=_) _ _ s
 refine wpAny_bind (tupleItemsOf_ ht ?_)
 refine wpAny_bind (wpAny_typeOf hTs ?_)
 rw [if_pos (by decide)]
 refine wpAny_bind (Of hs pl pu ?_)
 have hno:¬((((sIx items.size 0 lo:Nat):Int)==0&&(1:Int)==1&&(sIx items.size items.size hi-sIx items.size 0 lo)==items.size)=true):=by
  intro q
  rw [Bool.and_eq_true,Bool.and_eq_true] at q
  have q1:((sIx items.size 0 lo:Nat):Int)=0:=eq_of_beq q.1.1
  have q2:sIx items.size items.size hi-sIx items.size 0 lo=items.size:=eq_of_beq q.2
  exact hw ⟨by omega,by omega⟩
 show wpAny _ _ (if (((sIx items.size 0 lo:Nat):Int)==0&&(1:Int)==1&&(sIx items.size items.size hi-sIx items.size 0 lo)==items.size)=true then _ else _) _ _ s
 rw [if_neg hno,Ar5]
 first
  | exact wpAny_bind (m:=Builtin.Tuple.tupleExact _) (wpAny_newObj_type (wpAny_pure ⟨_,rfl,wpAny_pure h⟩) htake)
  | exact wpAny_bind (m:=Builtin.Tuple.tupleExact _) (wpAny_newObj_type (wpAny_bind (wpAny_pure (wpAny_pure ⟨_,rfl,wpAny_pure h⟩))) htake)
  | exact wpAny_bind (wpAny_bind (m:=Builtin.Tuple.tupleExact _) (wpAny_newObj_type (wpAny_pure (wpAny_pure ⟨_,rfl,wpAny_pure h⟩)) htake))
  | exact wpAny_bind (wpAny_bind (m:=Builtin.Tuple.tupleExact _) (wpAny_newObj_type (wpAny_pure ⟨_,rfl,wpAny_pure h⟩) htake))
end
end HT
namespace L2
open PySem PySem.Spec PyProof.Rows
abbrev TO:=St->Hp->(Option Int->Hp->Prop)->Prop
def PO (X:Cx) (e:Option Expr) (t:TO):Prop :=
 ∀ (Aa:List (Addr × Obj)) (s:Shared) (σ:St) (H:Hp) (Q:Option Int->Hp->Prop),Inv X Aa σ H s->t σ H Q →
   wpAny (model X.prog X.w) X.A (evalPart e X.env) (fun u s'=>∃ o H',Inv X Aa σ H' s'/\IsPart u o/\Q o H') X.xe s
def Ax8:TO:=fun _ H Q=>Q none H
def Bc9 (t:TE):TO:=fun σ H Q=>t σ H fun x H1=>∃ i,x=.int i/\Q (some i) H1
section
variable {X:Cx}{e:Expr}{te:TE}{lo hi:Option Expr}{tl th:TO}{pos p2:Pos}
theorem Fn:PO X none Ax8:=by
 intro Aa s σ H Q I h
 rw [evalPart_none]
 exact wpAny_pure ⟨none,H,I,.none,h⟩
theorem D8 (h:PE X e te):PO X (some e) (Bc9 te):=by
 intro Aa s σ H Q I hw
 rw [evalPart_some]
 refine thn (h Aa s σ H _ I hw) fun u s1 ⟨x,H1,I1,r1,q1⟩=>?_
 obtain⟨i,rfl,q⟩:=q1
 obtain⟨t,rfl⟩:=r1
 exact ⟨some i,H1,I1,.int i t,q⟩
def SlR (X:Cx) (r:V->Option Int->Option Int->Hp->VK->Prop):Prop :=
 ∀ (Aa:List (Addr × Obj)) (s:Shared) (σ:St) (H:Hp) (x:V) (v vl vu:Value) (lo hi:Option Int) (sl:Addr) (Q:VK),Inv X Aa σ H s->RelV x v->s.heap.IsSliceOf sl vl vu .none->IsPart vl lo->IsPart vu hi->r x lo hi H Q →
   ∃ T id,typeLookup (.type T) "__getitem__"=pure (some (.builtin id))/\s.TypeIs v T/\wpAny (model X.prog X.w) X.A (getItem v (.ref sl)) (EP X Aa σ Q) X.xe s
def tSl (r:V->Option Int->Option Int->Hp->VK->Prop) (te:TE) (tl th:TO):TE:=fun σ H Q=>te σ H fun x H1=>tl σ H1 fun l H2=>th σ H2 fun u H3=>r x l u H3 Q
theorem C6 {r:V->Option Int->Option Int->Hp->VK->Prop} (hr:SlR X r) (he:PE X e te) (hl:PO X lo tl) (hu:PO X hi th):PE X (.Subscript e (.Slice lo hi none p2) pos) (tSl r te tl th):=by
 intro Aa s σ H Q I h
 refine Subscript_ (thn (he Aa s σ H _ I h) fun v s1 ⟨x,H1,I1,r1,q1⟩=>?_)
 refine wpAny_Slice (thn (hl Aa s1 σ H1 _ I1 q1) fun vl s2 ⟨l,H2,I2,pl,q2⟩=>thn (hu Aa s2 σ H2 _ I2 q2) fun vu s3 ⟨u,H3,I3,pu,q3⟩=>?_)
 rw [evalPart_none]
 refine wpAny_pure ?_
 have I4:Inv X Aa σ H3 { s3 with heap:=s3.heap.push { cls:=.type "slice",data:=.fields #[vl,vu,.none] } }:=I3.kept (t':=s3.toks) fun b ob q=>Heap.get?_push_of_some _ q
 obtain⟨T,id,hT,ht,hg⟩:=hr Aa { s3 with heap:=s3.heap.push { cls:=.type "slice",data:=.fields #[vl,vu,.none] } } σ H3 x v vl vu l u s3.heap.objs.size Q I4 r1 (Heap.IsSliceOf.new ..) pl pu q3
 show wpAny (model X.prog X.w) X.A (subscriptTail e (.Slice lo hi none p2) v (.ref s3.heap.objs.size)) (EP X Aa σ Q) X.xe { s3 with heap:=s3.heap.push { cls:=.type "slice",data:=.fields #[vl,vu,.none] } }
 exact tail_any (ops:=[.ref s3.heap.objs.size,v]) ht hT hg (by with_unfolding_all rfl)
def cutV (xs:List V) (lo hi:Option Int):List V:=(xs.drop (HT.sIx xs.length 0 lo)).take (HT.sIx xs.length xs.length hi-HT.sIx xs.length 0 lo)
theorem Qj (xs:List V) (lo hi:Option Int):(cutV xs lo hi).length<=xs.length:=by
 unfold cutV
 rw [List.length_take,List.length_drop]
 omega
def rSlT (K:W.Frag):V->Option Int->Option Int->Hp->VK->Prop:=fun x lo hi H Q=>∃ a xs,x=.ref a/\SqT K H a xs ∧
 ¬(HT.sIx xs.length 0 lo=0/\HT.sIx xs.length xs.length hi=xs.length)/\∀ p,H p=none->Q (.ref p) (upd H p (.tup (cutV xs lo hi)))
theorem A65:SlR X (rSlT X.K):=by
 intro Aa s σ H x v vl vu lo hi sl Q I rx hs pl pu h
 obtain⟨a,xs,rfl,hx,hw,q⟩:=h
 cases rx
 obtain⟨its,r,ht,hz⟩:=I.tuple hx
 have hlen:its.toArray.size=xs.length:=by rw [List.size_toArray];exact r.length.symm
 refine⟨"tuple",_,PyProof.Rows.slot_tuple_getitem.lookup,ht.typeIs,?_⟩
 refine HT.getItem_tuple_cut ht hs pl pu (by rw [hlen];exact hw) ?_ (by rw [hlen];exact hz)
 rw [hlen]
 refine⟨.ref s.heap.objs.size,_,I.laid (t':=s.toks) (o:=.tup (cutV xs lo hi)) (fun b ob q=>Heap.get?_push_of_some _ q) (Nat.le_refl _) ?_,rfl,q _ (I.hok.fresh (Nat.le_refl _))⟩
 exact ⟨Nat.le_trans (Qj xs lo hi) hz,_,(r.drop (HT.sIx xs.length 0 lo)).take (HT.sIx xs.length xs.length hi-HT.sIx xs.length 0 lo),Kp.new _ _⟩
def Bd7 (K:W.Frag):R2:=fun x y H Q=>∃ a b xs ys,x=.ref a/\y=.ref b/\SqT K H a xs/\SqT K H b ys/\xs≠[]/\xs.length+ys.length<=sizeLine ∧
 (ys=[]->Q (.ref a) H)/\(ys≠[]->∀ p,H p=none->Q (.ref p) (upd H p (.tup (xs++ys))))
theorem Vals.nil_iff {xs:List V}{us:List Value} (r:Vals xs us):us=[]↔xs=[]:=by
 cases r with
 | nil=>simp
 | cons _ _=>simp
theorem A02:OpR X (binaryOp .Add) (Bd7 X.K):=by
 intro Aa s σ H x y v u Q I rx ry h
 obtain⟨a,b,xs,ys,rfl,rfl,ha,hb,hx,hz,q1,q2⟩:=h
 cases rx
 cases ry
 obtain⟨its,r1,p1,_⟩:=I.tuple ha
 obtain⟨its2,r2,p2,_⟩:=I.tuple hb
 refine HT.cat_tup p1 p2 (fun z=>hx (r1.nil_iff.mp z)) (fun z=>⟨.ref a,H,I,rfl,q1 (r2.nil_iff.mp z)⟩) (fun z=>?_) (by rw [←r1.length,←r2.length];exact hz)
 refine⟨.ref s.heap.objs.size,_,I.laid (t':=s.toks) (o:=.tup (xs++ys)) (fun b ob q=>Heap.get?_push_of_some _ q) (Nat.le_refl _) ?_,rfl,q2 (fun w=>z (r2.nil_iff.mpr w)) _ (I.hok.fresh (Nat.le_refl _))⟩
 exact ⟨by rw [List.length_append];exact hz,_,r1.append r2,Kp.new _ _⟩
end
end L2
namespace L2
open PySem PySem.Spec PyProof.Rows
def ixN (n:Nat) (i:Int):Option Nat:=if 0<=i then (if i<n then some i.toNat else none) else if -(n:Int)<=i then some (i+n).toNat else none
def atI {α:Type} (xs:List α) (i:Int):Option α:=(ixN xs.length i).bind fun j=>xs[j]?
theorem A24 {n:Nat}{i:Int}{j:Nat} (h:ixN n i=some j):seqIndex? i n=some j/\j<n/\-(n:Int)<=i/\i<n:=by
 unfold ixN at h
 by_cases h0:0<=i
 . rw [if_pos h0] at h
   by_cases h1:i<n
   . rw [if_pos h1] at h
     have e:i.toNat=j:=Option.some.inj h
     exact ⟨by rw [seqIndex_of h0 h1,e],by omega,by omega,h1⟩
   . rw [if_neg h1] at h;cases h
 . rw [if_neg h0] at h
   by_cases h1:-(n:Int)<=i
   . rw [if_pos h1] at h
     have e:(i+n).toNat=j:=Option.some.inj h
     exact ⟨by rw [seqIndex_neg (by omega) h1,e],by omega,h1,by omega⟩
   . rw [if_neg h1] at h;cases h
theorem Ap6 {α:Type}{xs:List α}{i:Int}{v:α} (h:atI xs i=some v):∃ j,seqIndex? i xs.length=some j/\xs[j]?=some v/\j<xs.length/\-(xs.length:Int)<=i/\i<xs.length:=by
 unfold atI at h
 cases e:ixN xs.length i with
 | none=>rw [e] at h;cases h
 | some j =>
   rw [e] at h
   obtain⟨h1,h2,h3,h4⟩:=A24 e
   exact ⟨j,h1,h,h2,h3,h4⟩
theorem Cg {α:Type}{xs:List α}{j:Nat}{v:α} (h:xs[j]?=some v):atI xs (j:Int)=some v:=by
 have hj:j<xs.length:=(List.getElem?_eq_some_iff.mp h).1
 have e:ixN xs.length (j:Int)=some j:=by
  unfold ixN
  rw [if_pos (by omega),if_pos (by omega)];simp
 unfold atI;rw [e];exact h
def Aq0 (b:Expr):Prop:=∀ o i,subscripted b false o i=operate [o,i] (getItem o i)
def IxR (X:Cx) (r:R2):Prop :=
 ∀ (value slice:Expr) (Aa:List (Addr × Obj)) (s:Shared) (σ:St) (H:Hp) (x y:V) (v u:Value) (Q:VK),Inv X Aa σ H s->RelV x v->RelV y u->r x y H Q →
   subscripted slice false v u=operate [v,u] (getItem v u)->wpAny (model X.prog X.w) X.A (subscriptTail value slice v u) (EP X Aa σ Q) X.xe s
def MtR (X:Cx) (id:String) (r:V->List V->Hp->VK->Prop):Prop :=
 ∀ (Aa:List (Addr × Obj)) (s:Shared) (σ:St) (H:Hp) (x:V) (xs:List V) (v:Value) (us:List Value) (Q:VK),Inv X Aa σ H s->RelV x v->Vals xs us->r x xs H Q →
   wpAny (model X.prog X.w) X.A (call (.builtin id) (v::us)) (EP X Aa σ Q) X.xe s
section
variable {X:Cx}{a b:Expr}{ta tb:TE}{pos:Pos}
theorem Cc {r:R2} (hr:IxR X r) (ha:PE X a ta) (hb:PE X b tb) (hs:Aq0 b):PE X (.Subscript a b pos) (tOp r ta tb):=by
 intro Aa s σ H Q I h
 exact Subscript_ (binT ha hb I h fun v u s2 x y H2 I2 rx ry q=>hr a b Aa s2 σ H2 x y v u Q I2 rx ry q (hs _ _))
def rIxL (K:W.Frag):R2:=fun x y H Q=>∃ p xs i v,x=.ref p/\y=.int i/\SqL K H p xs/\atI xs i=some v/\Q v H
def rIxT (K:W.Frag):R2:=fun x y H Q=>∃ p xs i v,x=.ref p/\y=.int i/\SqT K H p xs/\atI xs i=some v/\Q v H
theorem A23:IxR X (rIxL X.K):=by
 intro value slice Aa s σ H x y v u Q I rx ry h hs
 obtain⟨p,xs,i,z,rfl,rfl,hq,he,q⟩:=h
 cases rx
 obtain⟨t,rfl⟩:=ry
 obtain⟨its,r,pl,hz⟩:=I.list hq
 obtain⟨j,h1,h2,h3,h4,h5⟩:=Ap6 he
 obtain⟨w,ew,rw'⟩:=r.get h2
 have hl:=r.length
 have hn:=Aj5
 have fin:EP X Aa σ Q w s:=⟨z,H,I,rw',q⟩
 by_cases h0:0<=i
 . have hj:i.toNat=j:=by
    rw [seqIndex_of h0 h5] at h1
    exact Option.some.inj h1
   exact item_listR pl.isList h0 (by omega) (by rw [hj];simpa using ew) fin hs
 . have hj:(i+(its.toArray.size:Int)).toNat=j:=by
    rw [seqIndex_neg (by omega) h4] at h1
    rw [List.size_toArray,←hl]
    exact Option.some.inj h1
   exact subscriptTail_builtinR (x:=w) pl.isList.typeIs slot_list_getitem.lookup
    (wpAny_getItem_list_neg (Q:=fun r s'=>r=w/\EP X Aa σ Q r s') pl.isList (by omega) (by rw [List.size_toArray]<;>omega) (by omega) (by rw [hj];simpa using ew) ⟨rfl,fin⟩) hs
theorem Ba7:IxR X (rIxT X.K):=by
 intro value slice Aa s σ H x y v u Q I rx ry h hs
 obtain⟨p,xs,i,z,rfl,rfl,hq,he,q⟩:=h
 cases rx
 obtain⟨t,rfl⟩:=ry
 obtain⟨its,r,pl,hz⟩:=I.tuple hq
 obtain⟨j,h1,h2,h3,h4,h5⟩:=Ap6 he
 obtain⟨w,ew,rw'⟩:=r.get h2
 have hl:=r.length
 have hn:=Aj5
 have fin:EP X Aa σ Q w s:=⟨z,H,I,rw',q⟩
 exact subscriptTail_builtinR (x:=w) pl.typeIs slot_tuple_getitem.lookup
  (getItem_tuple (j:=j) (Q:=fun r s'=>r=w/\EP X Aa σ Q r s') pl (by omega) (by omega) (by rw [List.size_toArray,←hl];exact h1) (by simpa using ew) ⟨rfl,fin⟩) hs
theorem V5 (lo hi:Option Int) (n:Nat):(sliceBounds lo hi none n).1=((HT.sIx n 0 lo:Nat):Int)/\(sliceBounds lo hi none n).2.1=((HT.sIx n n hi:Nat):Int)/\(sliceBounds lo hi none n).2.2=1:=by
 refine⟨?_,?_,rfl⟩
 . cases lo with
   | none=>simp [sliceBounds,HT.sIx]
   | some i =>
     simp only [sliceBounds,HT.sIx,Option.getD_none,show (1:Int) > 0 by decide,if_true]
     by_cases h:i<0
     . simp only [h,if_true]<;>omega
     . simp only [h,if_false]<;>omega
 . cases hi with
   | none=>simp [sliceBounds,HT.sIx]
   | some i =>
     simp only [sliceBounds,HT.sIx,Option.getD_none,show (1:Int) > 0 by decide,if_true]
     by_cases h:i<0
     . simp only [h,if_true]<;>omega
     . simp only [h,if_false]<;>omega
theorem Tq (its:List Value) (lo hi:Option Int):slicePick its.toArray lo hi none=((its.drop (HT.sIx its.length 0 lo)).take (HT.sIx its.length its.length hi-HT.sIx its.length 0 lo)).toArray:=by
 obtain⟨h1,h2,h3⟩:=V5 lo hi its.toArray.size
 unfold slicePick
 rw [h1,h2,h3]
 simp only [sliceRange_one,pick_run,List.size_toArray]<;>rfl
def rSlL (K:W.Frag):V->Option Int->Option Int->Hp->VK->Prop:=fun x lo hi H Q=>∃ a xs,x=.ref a/\SqL K H a xs/\∀ p,H p=none->Q (.ref p) (upd H p (.lst (cutV xs lo hi)))
theorem Ay3:SlR X (rSlL X.K):=by
 intro Aa s σ H x v vl vu lo hi sl Q I rx hs pl pu h
 obtain⟨a,xs,rfl,hx,q⟩:=h
 cases rx
 obtain⟨its,r,ht,hz⟩:=I.list hx
 have hlen:=r.length
 refine⟨"list",_,slot_list_getitem.lookup,ht.isList.typeIs,?_⟩
 refine wpAny_getItem_list_slice ht.isList hs pl pu .none (by simp) ?_ (by rw [List.size_toArray]<;>omega)
 rw [Tq,←hlen]
 refine⟨.ref s.heap.objs.size,_,I.laid (t':=s.toks) (o:=.lst (cutV xs lo hi)) (fun b ob q=>Heap.get?_push_of_some _ q) (Nat.le_refl _) ?_,rfl,q _ (I.hok.fresh (Nat.le_refl _))⟩
 exact ⟨Nat.le_trans (Qj xs lo hi) hz,_,0,(r.drop (HT.sIx xs.length 0 lo)).take (HT.sIx xs.length xs.length hi-HT.sIx xs.length 0 lo),Heap.get?_push_size _ rfl⟩
theorem Xu:Du X (.builtin "len") (fun xs H Q=>∃ p ys,xs=[.ref p]/\(SqL X.K H p ys\/SqT X.K H p ys)/\Q (.int ys.length) H):=by
 intro Aa s σ H xs us Q I r h
 obtain⟨p,ys,rfl,hq,q⟩:=h
 obtain⟨u,rfl,rx⟩:=Mc r
 cases rx
 have hn:=Aj5
 rcases hq with hq | hq
 . obtain⟨its,r',pl,hz⟩:=I.list hq
   have hlen:=r'.length
   exact Calls.call_len_list pl.isList (by simp only [List.size_toArray]<;>omega) ⟨.int ys.length,H,I.tok _,⟨s.toks+1,by rw [List.size_toArray,hlen]⟩,q⟩
 . obtain⟨its,r',pl,hz⟩:=I.tuple hq
   have hlen:=r'.length
   exact len_tuple pl (by simp only [List.size_toArray]<;>omega) ⟨.int ys.length,H,I.tok _,⟨s.toks+1,by rw [List.size_toArray,hlen]⟩,q⟩
theorem Xt:Du X (.type "list") (fun xs H Q=>∃ p ys,xs=[.ref p]/\(SqL X.K H p ys\/SqT X.K H p ys)/\∀ l,H l=none->Q (.ref l) (upd H l (.lst ys))):=by
 intro Aa s σ H xs us Q I r h
 obtain⟨p,ys,rfl,hq,q⟩:=h
 obtain⟨u,rfl,rx⟩:=Mc r
 cases rx
 have fin:∀ (its:List Value),Vals ys its->ys.length<=sizeLine->∀ (h':Heap) (c':Nat),(∀ b o',s.heap.get? b=some o'->h'.get? b=some o') →
  h'.get? s.heap.objs.size=some { cls:=.type "list",dict:=none,data:=.seq its.toArray c',slots:=#[] }->EP X Aa σ Q (.ref s.heap.objs.size) { s with heap:=h' }:=fun its r' hz h' c' kp e =>
  ⟨.ref s.heap.objs.size,_,I.laid (t':=s.toks) kp (Nat.le_refl _) (show ObjOk X.prog X.w _ h' _ (.lst ys) from ⟨hz,its,c',r',e⟩),rfl,q _ (I.hok.fresh (Nat.le_refl _))⟩
 rcases hq with hq | hq
 . obtain⟨its,r',pl,hz⟩:=I.list hq
   have hlen:=r'.length
   obtain⟨o,ho,hc,n,hd⟩:=pl.isList
   exact call_list_seq p (.inl rfl) ho hc hd (fun h' c' kp e=>fin its r' hz h' c' kp e) (by simp only [List.size_toArray]<;>omega)
 . obtain⟨its,r',pl,hz⟩:=I.tuple hq
   have hlen:=r'.length
   obtain⟨o,ho,hc,n,hd⟩:=pl
   exact call_list_seq p (.inr rfl) ho hc hd (fun h' c' kp e=>fin its r' hz h' c' kp e) (by simp only [List.size_toArray]<;>omega)
theorem Vq:Du X (.type "tuple") (fun xs H Q=>∃ p ys,xs=[.ref p]/\((SqL X.K H p ys/\∀ l,H l=none->Q (.ref l) (upd H l (.tup ys)))\/(SqT X.K H p ys/\Q (.ref p) H))):=by
 intro Aa s σ H xs us Q I r h
 obtain⟨p,ys,rfl,h⟩:=h
 obtain⟨u,rfl,rx⟩:=Mc r
 cases rx
 rcases h with ⟨hq,q⟩|⟨hq,q⟩
 . obtain⟨its,r',pl,hz⟩:=I.list hq
   have hlen:=r'.length
   refine call_tuple_list pl.isList (fun h' kp=>?_) (by simp only [List.size_toArray]<;>omega)
   have I1:Inv X Aa σ H { s with heap:=h' }:=I.kept (t':=s.toks) kp
   have I2:Inv X Aa σ (upd H h'.objs.size (.tup ys)) { s with heap:=h'.push { cls:=.type "tuple",data:=.seq its.toArray } } :=
    I1.laid (t':=s.toks) (fun b o e=>Heap.get?_push_of_some _ e) (Nat.le_refl _) (show ObjOk X.prog X.w _ _ _ (.tup ys) from ⟨hz,its,r',Kp.new _ _⟩)
   exact ⟨.ref h'.objs.size,_,I2,rfl,q _ (I1.hok.fresh (Nat.le_refl _))⟩
 . obtain⟨its,r',pl,hz⟩:=I.tuple hq
   exact call_tuple_same pl ⟨.ref p,H,I,rfl,q⟩
def tyV (K:W.Frag) (T:String) (x:V) (H:Hp):Prop:=match x with
 | .str _=>T="str"
 | .int _=>T="int"
 | .ref p=>(T="list"/\∃ xs,SqL K H p xs)\/(T="tuple"/\∃ o,K.lookup p=some o/\o.cls=.type "tuple"/\o.dict=none) ∨
    (T="dict"/\((∃ kvs,H p=some (.dK kvs))\/∃ kvs,H p=some (.dT kvs)))\/(T="set"/\∃ S n,H p=some (.set S n))
 | _=>False
theorem A52 {Aa:List (Addr × Obj)}{σ:St}{H:Hp}{s:Shared}{T:String}{x:V}{v:Value} (I:Inv X Aa σ H s) (r:RelV x v) (ty:tyV X.K T x H) :
 s.TypeIs v T/\∀ a,v=.ref a->∃ ob,s.heap.get? a=some ob/\ob.dict=none:=by
 cases x with
 | str z =>
   obtain⟨t,rfl⟩:=r
   cases (show T="str" from ty)
   exact ⟨typeIs_str s z t,fun _ e=>nomatch e⟩
 | int i =>
   obtain⟨t,rfl⟩:=r
   cases (show T="int" from ty)
   exact ⟨typeIs_int s i t,fun _ e=>nomatch e⟩
 | ref p =>
   cases r
   rcases ty with ⟨rfl,xs,hq⟩|⟨rfl,o,hk,hc,hd⟩|⟨rfl,hk⟩|⟨rfl,S,n,hk⟩
   . obtain⟨its,_,pl,_⟩:=I.list hq
     refine⟨pl.isList.typeIs,fun a e=>?_⟩
     cases e
     obtain⟨o,n,e,c,hd,_⟩:=pl
     exact ⟨o,e,hd⟩
   . refine⟨⟨o,I.kIn p o hk,hc⟩,fun a e=>?_⟩
     cases e
     exact ⟨o,I.kIn _ o hk,hd⟩
   . have z:∃ o,s.heap.get? p=some o/\o.ExactDict:=by
      rcases hk with ⟨kvs,hk⟩|⟨kvs,hk⟩
      . obtain⟨_,_,_,_,o,_,_,e,ex,_⟩:=I.hok p _ hk
        exact ⟨o,e,ex⟩
      . obtain⟨_,_,_,_,o,_,_,e,ex,_⟩:=I.hok p _ hk
        exact ⟨o,e,ex⟩
     obtain⟨o,e,ex⟩:=z
     refine⟨⟨o,e,ex.1⟩,fun a e2=>?_⟩
     cases e2
     exact ⟨o,e,ex.2.1⟩
   . obtain⟨o,_,_,_,e,ex,_⟩:=I.hok p _ hk
     refine⟨⟨o,e,ex.1⟩,fun a e2=>?_⟩
     cases e2
     exact ⟨o,e,ex.2.1⟩
 | _=>exact False.elim ty
def tBM (K:W.Frag) (T:String) (r:V->List V->Hp->VK->Prop) (to:TE) (t:TA):TE:=fun σ H Q=>to σ H fun x H1=>tyV K T x H1/\t σ H1 fun xs H2=>r x xs H2 Q
variable {o e:Expr}{es:List Expr}{to:TE}{t:TA}{name:Str}{apos cpos:Pos}{T id:String}{r:V->List V->Hp->VK->Prop}
theorem Bd9 (pa:PlainAttrs T) (slot:Slot T name id) (hty:typeOf (.builtin id)=pure (.type "method_descriptor")) (hm:MtR X id r) (ho:PE X o to) (ha:PA X (e::es) t)
 (hbase:attributeBase o name X.env (eval o X.env)=eval o X.env:=by rfl)
 (hfew:((backTo cpos (starEach (e::es) X.env)).all (fun x=>!x.1)&&(backToKw cpos (keywordEach [] X.env)).all (fun x=>x.1.isSome)
   && decide ((e::es).length+([]:List Keyword).length+(if ([]:List Keyword).isEmpty then 0 else 1)<30))=true:=by rfl)
 (hline:(apos.endLine==cpos.line)=true:=by rfl) (hs:starEach (e::es) X.env=(false,eval e X.env)::starEach es X.env:=by rfl) (hplain:(backTo cpos (starEach es X.env)).any (·.1)=false:=by rfl) :
 PE X (.Call (.Attribute o name apos) (e::es) [] cpos) (tBM X.K T r to t):=by
 intro Aa s σ H Q I h
 refine wpAny_Call_method_late hbase hfew hline rfl (thn (ho Aa s σ H _ I h) fun v s1 ⟨x,H1,I1,r1,ty,q1⟩=>?_)
 obtain⟨h1,h2⟩:=A52 I1 r1 ty
 refine⟨T,id,pa,slot,hty,h1,h2,?_⟩
 have hA:=ha cpos Aa s1 σ H1 _ I1 q1
 rw [hs] at hA ⊢
 refine Calls.callWith_builtin (by show (false || (backTo cpos (starEach es X.env)).any (·.1))=false;rw [hplain]<;>rfl) (Calls.evalArgs_plain ?_)
 exact thn hA fun us s2 ⟨vs,H2,I2,r2,q2⟩=>hm Aa s2 σ H2 x vs v us Q I2 r1 r2 q2
end
end L2
namespace L2
open PySem PySem.Spec PyProof.Rows
def MtM (X:Cx) (id:String) (r:V->List V->Hp->VK->Prop):Prop :=
 ∀ (Aa:List (Addr × Obj)) (s:Shared) (σ:St) (H:Hp) (x:V) (xs:List V) (v:Value) (us:List Value) (Q:VK),Inv X Aa σ H s->RelV x v->Vals xs us->r x xs H Q →
   wpAny (model X.prog X.w) X.A (call (.builtin id) (v::us)) (EP X Aa σ Q) X.xe s
theorem Vals.one:∀{x:V}{us:List Value},Vals [x] us->∃ u,us=[u]/\RelV x u
 | _,_,.cons r .nil=>⟨_,rfl,r⟩
section
variable {X:Cx}{Aa:List (Addr × Obj)}{σ:St}{H:Hp}{s:Shared}{l b:Addr}{xs ys zs:List V}
theorem Inv.lset {its its':List Value}{n:Nat}{f:Array Value->Array Value}{t':Nat} (I:Inv X Aa σ H s) (hH:H l=some (.lst xs))
 (e:s.heap.get? l=some { cls:=.type "list",data:=.seq its.toArray n }) (hf:f its.toArray=its'.toArray) (hv:Vals ys its') (hz:ys.length<=sizeLine) :
 Inv X Aa σ (upd H l (.lst ys)) { s with heap:=s.heap.update l (Obj.mapSeq f),toks:=t' }:=by
 have q:=PySem.IsL.update e f
 rw [hf] at q
 refine I.write (x:=l) (e:=l) (by rw [hH];exact trivial) (.inl rfl) (fun b' u hb hu=>(Heap.get?_update_other s.heap (Obj.mapSeq f) (Ne.symm hb)).trans hu) ⟨_,q⟩ ?_
 exact ⟨hz,its',_,hv,q⟩
theorem Inv.lnew {its:List Value}{t':Nat} (I:Inv X Aa σ H s) (hv:Vals ys its) (hz:ys.length<=sizeLine) :
 Inv X Aa σ (upd H s.heap.objs.size (.lst ys)) { s with heap:=s.heap.push { cls:=.type "list",data:=.seq its.toArray },toks:=t' } :=
 I.laid (fun _ _ q=>Heap.get?_push_of_some _ q) (Nat.le_refl _) ⟨hz,its,0,hv,Heap.get?_push_size _ rfl⟩
theorem Inv.fresh (I:Inv X Aa σ H s):H s.heap.objs.size=none:=I.hok.fresh (Nat.le_refl _)
theorem Inv.lstM (I:Inv X Aa σ H s) (hH:H l=some (.lst xs)):xs.length<=sizeLine/\∃ (its:List Value) (n:Nat),Vals xs its/\xs.length=its.length/\s.heap.get? l=some { cls:=.type "list",data:=.seq its.toArray n }:=by
 obtain⟨z,its,n,r,e⟩:=I.hok l _ hH
 exact ⟨z,its,n,r,r.length,e⟩
end
section
variable {X:Cx}
def Ay9:V->List V->Hp->VK->Prop:=fun x vs H Q=>∃ l xs y,x=.ref l/\vs=[y]/\H l=some (.lst xs)/\xs.length<sizeLine/\Q .non (upd H l (.lst (xs++[y])))
theorem C7:MtM X "list.append" Ay9:=by
 intro Aa s σ H x vs v us Q I rx rv h
 obtain⟨l,xs,y,rfl,rfl,hH,hz,q⟩:=h
 cases rx
 obtain⟨u,rfl,ru⟩:=rv.one
 obtain⟨z,its,n,r,hl,e⟩:=I.lstM hH
 refine call_meets F.slot_list_append ⟨_,e,rfl⟩ F.entry_list_append (F.args_list_append_2 _ _) (PySem.list_append l its.toArray n u (by rw [List.size_toArray];omega)) ⟨e,?_⟩
 refine⟨.non,_,I.lset (its':=its++[u]) hH e (by simp) (r.append (.cons ru .nil)) ?_,rfl,q⟩
 rw [List.length_append,List.length_singleton]
 omega
end
section
variable {prog:Program}{w:World}{A:Around}{E:Value->Shared->Prop}{s:Shared}
end
section
variable {X:Cx}
end
end L2
namespace Att
open PySem PySem.W PySem.Calls PyProof.Rows
theorem P4 {P:Params}{h:Heap}:∀ (ns:List Int) (vs:List Value),WellAll P h vs (ns.map WData.int)->IntsAre vs ns:=by
 intro ns
 induction ns with
 | nil =>
   intro vs w
   rw [List.map_nil] at w
   cases w
   exact .nil
 | cons n ns ih =>
   intro vs w
   rw [List.map_cons] at w
   cases w with
   | cons a b =>
     cases a
     exact .cons _ _ (ih _ b)
theorem Af9 {l:OpenLaw}{n:Nat} (hn:l.most=some n) {P:Params}{h:Heap}{args:List WData}{vals:List Value}
 (hpre:l.row.toRowW.claim.pre args=true) (hwl:WellAll P h vals args) :
 ∃ a vs ns,vals=[Value.ref a]/\args=[WData.list (ns.map WData.int)]/\h.get? a=some { cls:=.type "list",data:=.seq vs.toArray }/\IntsAre vs ns/\ns.length<=n:=by
 have hsh:WShape.hasAll [] args [.list .int]=true:=(pre_splitW hpre).1
 have hc:l.pre.holds [] { args:=args }=true:=(pre_splitW hpre).2
 obtain⟨d,r,rfl,h1,h2⟩:=hasAllW_cons hsh
 obtain rfl:=hasAllW_nil h2
 obtain⟨xs,rfl,h3⟩:=hasW_list h1
 obtain⟨ns,rfl⟩:=items_int h3
 have hlen:ns.length<=n:=by
  unfold OpenLaw.pre at hc
  have h4:(WTm.not (.lt (.lit (.int (n:Int))) (.len (.arg 0)))).holds [] { args:=[.list (ns.map .int)] }=true:=by
   have h4:=(holds_andW hc).1
   rw [hn] at h4
   exact h4
  have h5:=condW_of h4 (w_not (w_lt w_lit (w_len_list (w_arg rfl))))
  rw [List.length_map] at h5
  refine Nat.le_of_not_lt fun q=>?_
  have q':(n:Int)<((ns.length:Nat):Int):=by omega
  first
   | (rw [decide_eq_true q'] at h5;exact absurd h5 (by decide))
   | (simp at h5;omega)
 cases hwl with
 | cons w1 w2 =>
   cases w2
   cases w1 with
   | list ho hall=>exact ⟨_,_,ns,rfl,rfl,ho,P4 ns _ hall,hlen⟩
theorem Ag7 (l:OpenLaw) (args:List WData):l.row.toRowW.claim.post args (.bool true) args=true :=
 postW_of (r:=l.row.toRowW) (X:=(true==true))
  (show WShape.has [] (.bool true) .bool=true by first | rfl | decide | simp [WShape.has,WShape.arms,WShape.armsAll])
  (show (WTm.eq .res (.lit (.bool true))).value [] { args:=args,res:=some (.bool true),after:=args }=some (.bool (true==true)) from w_eq_bool (w_res rfl) w_lit) rfl
theorem attach_call {l:OpenLaw}{n:Nat}{q:Program}{loose:List Str}{XP:(Str->Option Value)->Heap->Prop}{YP:World->Heap->Prop}{d:DefRec}
 (hn:l.most=some n) (hdf:d.params.defaults=[])
 (call:∀ (w:World) (s₀ s₁:Shared) (mg mb:Str->Option Value) (fa:Addr) (o:Obj) (pm cd doc:Value) (a:Addr) (vs:List Value) (ns:List Int),
   Ground q loose [] XP w s₀ mg mb s₁.heap->YP w s₁.heap →
   s₁.heap.get? fa=some o->o.data=.func (docDef d.name d.params d.body d.scope pm cd doc)->s₁.heap.CodeRec cd d.name->mg d.name=some (.ref fa) →
   s₁.heap.get? a=some { cls:=.type "list",data:=.seq vs.toArray }->IntsAre vs ns->ns.length<=n->s₁.gens=#[] →
   codeAny (model l.prog w) callerA (.call (.ref fa) ⟨[.ref a],[]⟩) (fun r s'=>r=.ok (.ret (.bool true))/\OldK s₁.heap s'.heap/\s'.os=s₁.os/\AllBare s'.gens) s₁) :
 WalkO q loose XP YP l.row.toRowW d [] (fun f vs=>PySem.call f vs):=by
 intro w s₀ s₁ mg mb G Y fa o pm cd doc dV kV ho hd hcd hD hmg hg args vals as hpre hlay hrd hwl hlo
 obtain rfl:dV=.none:=Dflts.none hD hdf
 obtain rfl:kV=.none:=Dflts.noKw hD
 obtain⟨a,vs,ns,rfl,rfl,hobj,hints,hlen⟩:=Af9 hn hpre hwl
 refine enter_call (codeAny_mono (call w s₀ s₁ mg mb fa o pm cd doc a vs ns G Y ho (fd_plain hd) hcd hmg hobj hints hlen hg) fun r s' hq=>?_)
 obtain⟨rfl,h2,h3,h4⟩:=hq
 exact ⟨.inl ⟨.bool true,.bool true,[],rfl,fun _=>rfl,.bool true,Ag7 l _,fun _=>⟨List.Pairwise.nil,fun _ hm=>(nomatch hm)⟩⟩,h2,h3,h4⟩
section
variable {prog:Program}{w:World}{A:Around}{E:Value->Shared->Prop}{s:Shared}{K:Frag}
end
end Att
namespace L2
open PySem PySem.Spec PyProof.Rows
theorem Vy:∀{vs:List Value}{ns:List Int},IntsAre vs ns->Vals (ns.map V.int) vs
 | _,_,.nil=>.nil
 | _,_,.cons n t h=>.cons ⟨t,rfl⟩ (Vy h)
def Only (H:Hp):Prop:=∀ b,H b=none\/∃ o xs,H b=some (.frz o (.lst xs))
theorem At7 {P:Program}{w:World}{K:W.Frag}{mg mb:Str->Option Value}{CX:CXT}{k:Nat}{fa a:Addr}{fd:FuncData}{x:Str}{sp:Sp}{s₁:Shared}{vs:List Value}{ns:List Int}
 (KX:K.In s₁.heap) (hns:s₁.heap.Ns mainGlobals mg) (hb:s₁.heap.Ns builtinsNs mb) (hbb:∀ x:Str,x≠"__name__"->mb x=bootBuiltins x) (hlim:s₁.heap.NoLimit) (hg:s₁.gens=#[])
 (ha:s₁.heap.get? a=some { cls:=.type "list",data:=.seq vs.toArray }) (hi:IntsAre vs ns) (hl:ns.length<=sizeLine) (hr:Room k callerA)
 (F:∀ base:Heap,K.In base->base.Ns mainGlobals mg->FnOk P w K mg base CX k fa fd [x] sp) (hbind:∀ (s:Shared) (u:Value),BindsTo s fd ⟨[u],[]⟩ [(x,u)])
 (hsp:∀ H:Hp,Only H->SqL K H a (ns.map V.int)->sp [.ref a] H (fun v _=>v=.bl true) fun _ _ _=>False)
 (hCX:∀ H e s',CX [] H s₁ (fun _ _ _=>False) e s'->False) :
 codeAny (model P w) callerA (.call (.ref fa) ⟨[.ref a],[]⟩) (fun r s'=>r=.ok (.ret (.bool true))/\OldK s₁.heap s'.heap/\s'.os=s₁.os/\AllBare s'.gens) s₁:=by
 have rv:=Vy hi
 have lenV:=hi.length
 have core:∀ H:Hp,Only H->SqL K H a (ns.map V.int)->HOk P w H s₁.heap->(∀ b,H b≠none->b=a)->(H a≠none->K.lookup a=none) →
  codeAny (model P w) callerA (.call (.ref fa) ⟨[.ref a],[]⟩) (fun r s'=>r=.ok (.ret (.bool true))/\OldK s₁.heap s'.heap/\s'.os=s₁.os/\AllBare s'.gens) s₁:=by
  intro H hO hS hok hA hK
  have base_of:∀{b:Addr}{o:Obj},s₁.heap.get? b=some o->H b=none->(hidT s₁.heap H).get? b=some o:=fun e n=>Au0 e n
  have noA:∀{b:Addr}{o:Obj}{es:Array DictEntry}{ep:Nat},s₁.heap.get? b=some o->o.data=.dict es ep->H b=none:=fun {b o es ep} e d=>by
   cases q:H b with
   | none=>rfl
   | some u =>
     have e':b=a:=hA b (by rw [q];simp)
     subst e'
     rw [ha] at e;cases e
     have d':Data.seq vs.toArray _=Data.dict es ep:=d
     cases d'
  have nsK:∀{b:Addr}{m:Str->Option Value},s₁.heap.Ns b m->(hidT s₁.heap H).Ns b m:=fun {b m} ⟨o,es,ep,e,d,r⟩=>⟨o,es,ep,base_of e (noA e d),d,r⟩
  have hKb:K.In (hidT s₁.heap H):=fun b o e=>base_of (KX b o e) (by
   cases q:H b with
   | none=>rfl
   | some u =>
     have e':b=a:=hA b (by rw [q];simp)
     subst e'
     rw [hK (by rw [q];simp)] at e;cases e)
  have hM:Mod K mg (hidT s₁.heap H):=⟨hKb,nsK hns,⟨mb,nsK hb,hbb⟩,let ⟨mc,h1,h2⟩:=hlim;⟨mc,nsK h1,h2⟩⟩
  have e0:Env0 P w K mg (hidT s₁.heap H) callerA [] s₁ H:=⟨rfl,hM,fun b o e=>A05 e,Nat.le_of_eq (Al0 _ _),trivial,fun b hb=>absurd (show b∈([]:List Addr) from hb) (by simp),hok,.of_eq hg⟩
  refine codeAny_mono ((F _ hKb (nsK hns)).run callerA [] s₁ H ⟨[.ref a],[]⟩ [.ref a] [.ref a] _ _ hr e0 (hbind s₁ (.ref a)) (.cons rfl .nil) (hsp H hO hS)) fun r s' h=>?_
  cases r with
  | error e=>exact (hCX H e s' h).elim
  | ok fl =>
    cases fl with
    | next=>exact False.elim h
    | brk=>exact False.elim h
    | cont=>exact False.elim h
    | ret u =>
      obtain⟨v,H',os,bare,un,hok',r',q⟩:=h
      have q':v=.bl true:=q
      subst q'
      obtain rfl:u=Value.bool true:=r'
      refine⟨rfl,OldK.of_keep fun b o e=>?_,os,bare⟩
      cases q:H b with
      | none=>exact un.keep b o e q (by intro z;exact absurd (show b∈([]:List Addr) from z) (by simp)) (by simp)
      | some u =>
        rcases hO b with z|⟨ob,xs,z⟩
        . rw [q] at z;cases z
        . have z2:=un.frzs b ob _ z
          obtain⟨e1,_⟩:=hok b _ z
          obtain⟨e2,_⟩:=hok' b _ z2
          rw [e] at e1;cases e1
          exact e2
 cases hk:K.lookup a with
 | some o =>
   have e:=KX a o hk
   rw [ha] at e
   cases e
   refine core (fun _=>none) (fun _=>.inl rfl) (.inr ⟨_,vs.toArray,_,hk,rfl,rfl,rfl,by rw [List.size_toArray,lenV];exact hl,by simpa using rv⟩) (fun b u z=>by have z':(none:Option HO)=some u:=z;cases z') (fun b z=>absurd rfl z) fun z=>absurd rfl z
 | none =>
   refine core (fun b=>if b=a then some (.frz { cls:=.type "list",data:=.seq vs.toArray } (.lst (ns.map V.int))) else none) (fun b=>?_) (.inl (.inr ⟨{ cls:=.type "list",data:=.seq vs.toArray },if_pos rfl⟩)) (fun b u z=>?_) (fun b z=>?_) fun _=>hk
   . by_cases hb:b=a
     . exact .inr ⟨_,_,if_pos hb⟩
     . exact .inl (if_neg hb)
   . by_cases hb:b=a
     . have z':=(if_pos hb).symm.trans z
       cases z'
       subst hb
       exact ⟨ha,by rw [List.length_map];exact hl,vs,_,rv,ha⟩
     . have z':=(if_neg hb).symm.trans z
       cases z'
   . by_cases hb:b=a
     . exact hb
     . exact absurd (if_neg hb) z
end L2
namespace L2
open PySem PySem.Spec PyProof.Rows
theorem walk_of {l:PySem.W.OpenLaw}{n k:Nat}{q:Program}{loose:List Str}{XP:(Str->Option Value)->Heap->Prop}{YP:World->Heap->Prop}{d:DefRec}{K:Params->PySem.W.Frag}{CX:World->CXT}{sp:World->Sp}{x:Str}
 (hn:l.most=some n) (hn2:n<=sizeLine) (hdf:d.params.defaults=[]) (hr:Room k callerA)
 (hY:∀ (w:World) (h:Heap),YP w h->(K w.params).In h)
 (F:∀ (w:World) (mg:Str->Option Value) (fa:Addr) (h:Heap),(K w.params).In h->h.Ns mainGlobals mg->mg d.name=some (.ref fa) →
   ∃ fd:FuncData,(∀ (s:Shared) (u:Value),BindsTo s fd ⟨[u],[]⟩ [(x,u)]) ∧
     ∀ base:Heap,(K w.params).In base->base.Ns mainGlobals mg->FnOk l.prog w (K w.params) mg base (CX w) k fa fd [x] (sp w))
 (hsp:∀ (w:World) (H:Hp) (a:Addr) (ns:List Int),ns.length<=n->Only H->SqL (K w.params) H a (ns.map V.int)->sp w [.ref a] H (fun v _=>v=.bl true) fun _ _ _=>False)
 (hCX:∀ (w:World) (H:Hp) (s:Shared) (e:Value) (s':Shared),CX w [] H s (fun _ _ _=>False) e s'->False) :
 PySem.W.WalkO q loose XP YP l.row.toRowW d [] (fun f vs=>PySem.call f vs):=by
 refine Att.attach_call hn hdf fun w s₀ s₁ mg mb fa o pm cd doc a vs ns G Y ho hd hcd hmg hobj hints hlen hg=>?_
 have KX:=hY w _ Y
 obtain⟨fd,hb,hF⟩:=F w mg fa _ KX G.T.g hmg
 exact At7 KX G.T.g G.T.b G.T.builtins G.T.nolimit hg hobj hints (Nat.le_trans hlen hn2) hr hF hb (fun H hO hS=>hsp w H a ns hlen hO hS) fun H e s'=>hCX w H s₁ e s'
end L2
namespace L2
open PySem PySem.Spec PyProof.Rows
def U6 (s:Stmt) (j:Nat):Stmt:=match s with
 | .ClassDef _ _ _ body _ _ _ _ _ _ _=>body.getD j (.Pass ⟨0,0,0,0⟩)
 | _=>.Pass ⟨0,0,0,0⟩
def Av (s:Stmt):Arguments:=match s with
 | .FunctionDef _ a _ _ _ _ _ _ _ _=>a
 | _=>{ posonlyargs:=[],args:=[],vararg:=none,kwonlyargs:=[],kw_defaults:=[],kwarg:=none,defaults:=[] }
def As (s:Stmt):List Stmt:=match s with
 | .FunctionDef _ _ b _ _ _ _ _ _ _=>b
 | _=>[]
def Ah (s:Stmt):Scope:=match s with
 | .FunctionDef _ _ _ _ _ _ sc _ _ _=>sc
 | _=>{ kind:=.function,names:=[],isGenerator:=false,isCoroutine:=false }
abbrev CX0:CXT:=fun _ _ _ _ _ _=>False
abbrev E0:XK:=fun _ _ _=>False
theorem Az9 {X:Cx}:S9 CX0 X E0:=fun _ _ _ _ _ _ _ h=>h.elim
structure Fun (K:W.Frag) (x qual:Str) (st:Stmt) (f:Addr) (fd:FuncData):Prop where
 ex:∃ (oc:Value) (od:Option Addr) (kV doc pm:Value) (an:Option Addr) (Bo ct:Value) (osl:Array (Option Value)),
  fd=PySem.W.fnOf x qual (Av st) (As st) (Ah st) .none kV doc pm an Bo ct/\K.lookup f=some ⟨oc,od,.func fd,osl⟩/\PySem.W.codeIn K Bo qual=true
 kp:PySem.W.keepIn K (.ref f)=true
section
variable {P:Program}{w:World}{K:W.Frag}{mg:Str->Option Value}{base:Heap}
theorem Fun.ok {x qual:Str}{st:Stmt}{f:Addr}{fd:FuncData}{N ps:List Str}{k:Nat}{sp:Sp} (F:Fun K x qual st f fd) (S:FnScope N ps (Ah st)) (len:∀ vs H Q E,sp vs H Q E->vs.length=ps.length)
 (hbody:∀ (Bo:Value) (A:Around) (outer:List Env) (s:Shared) (H:Hp) (vs:List V) (Q:VK) (E:XK),Room k (A.deeper (envOfC qual (Ah st) s.heap.objs.size f Bo))->sp vs H Q E →
   ∃ t,PSs (cxOf CX0 P w K mg base N qual (Ah st) f Bo A outer s H E).nox (As st) t/\t { nx:=fun _ H'=>Q .non H',rt:=Q } (start N vs) H):FnOk P w K mg base CX0 (k+1) f fd ps sp:=by
 obtain⟨oc,od,kV,doc,pm,an,Bo,ct,osl,rfl,lk,hcd⟩:=F.ex
 refine Bb5 lk hcd S len fun A outer s H vs Q E hr hsp=>?_
 obtain⟨t,h,q⟩:=hbody Bo A outer s H vs Q E hr hsp
 exact ⟨t,h.nox,q⟩
theorem Fun.binds {x qual:Str}{st:Stmt}{f:Addr}{fd:FuncData}{ps:List Str} (F:Fun K x qual st f fd)
 (h:∀ (kV doc pm:Value) (an:Option Addr) (Bo ct:Value) (us:List Value),us.length=ps.length->bindArgs (PySem.W.fnOf x qual (Av st) (As st) (Ah st) .none kV doc pm an Bo ct) ⟨us,[]⟩=pure (ps.zip us)):N1 K fd ps []:=by
 obtain⟨oc,od,kV,doc,pm,an,Bo,ct,osl,rfl,lk,hcd⟩:=F.ex
 exact .all (h kV doc pm an Bo ct)
theorem A9 {x qual:Str}{st:Stmt}{f:Addr}{oc:Value}{od an:Option Addr}{osl:Array (Option Value)}{kV doc pm Bo ct:Value} (l:K.lookup f=some ⟨oc,od,.func (PySem.W.fnOf x qual (Av st) (As st) (Ah st) .none kV doc pm an Bo ct),osl⟩)
 (c:PySem.W.codeIn K Bo qual=true) (k:PySem.W.keepIn K (.ref f)=true):Fun K x qual st f (PySem.W.fnOf x qual (Av st) (As st) (Ah st) .none kV doc pm an Bo ct):=⟨⟨oc,od,kV,doc,pm,an,Bo,ct,osl,rfl,l,c⟩,k⟩
end
section
variable {X:Cx}
theorem pv (i:Nat) {x:Str}{pos:Pos} (hN:X.N[i]?=some x:=by rfl) (hv:Vis X.env.scope x:=by first | exact Or.inl rfl | exact Or.inr (Or.inl rfl) | exact Or.inr (Or.inr rfl)) (hd:(x==("__debug__":Str))=false:=by decide)
 (hcd:(x==("__classdict__":Str))=false:=by decide):PE X (.Name x pos) (tVar i):=A76 hN hv hd hcd
end
theorem ite2 {c A B:Prop} [Decidable c] (h1:c->A) (h2:¬c->B):if c then A else B:=by
 by_cases h:c
 . rw [if_pos h]
   exact h1 h
 . rw [if_neg h]
   exact h2 h
def Same (H H':Hp):Prop:=∀ b o,H b=some o->H' b=some o
theorem Same.refl (H:Hp):Same H H:=fun _ _ h=>h
theorem Same.trans {H H1 H2:Hp} (a:Same H H1) (b:Same H1 H2):Same H H2:=fun c o h=>b c o (a c o h)
theorem Same.free {H H':Hp} (e:Same H H') {l:Addr} (h:H' l=Option.none):H l=Option.none:=by
 cases q:H l with
 | none=>rfl
 | some o =>
   rw [e l o q] at h
   cases h
theorem Same.seq {K:W.Frag}{H H':Hp}{a:Addr}{xs:List V} (e:Same H H') (h:SqL K H a xs):SqL K H' a xs:=by
 rcases h with (h|⟨o,h⟩) | h
 . exact .inl (.inl (e _ _ h))
 . exact .inl (.inr ⟨o,e _ _ h⟩)
 . exact .inr h
end L2
namespace L2
open PySem PySem.Spec PyProof.Rows
section
variable {κ:Type} [DecidableEq κ]
def valV (kvs:List (κ × V)) (k:κ):Option V:=(kvs.find? fun kv=>decide (kv.1=k)).map (·.2)
def putK (kvs:List (κ × V)) (k:κ) (v:V):List (κ × V) :=
 if (kvs.any fun kv=>decide (kv.1=k))=true then kvs.map (fun kv=>if kv.1=k then (kv.1,v) else kv) else kvs++[(k,v)]
def Vc (kvs:List (κ × V)) (k:κ):List (κ × V):=kvs.filter fun kv=>decide (kv.1≠k)
theorem On {p:κ × V}{r:List (κ × V)}{k:κ} (e:p.1=k):valV (p::r) k=some p.2:=by simp [valV,List.find?_cons,e]
theorem Oo {p:κ × V}{r:List (κ × V)}{k:κ} (e:¬p.1=k):valV (p::r) k=valV r k:=by simp [valV,List.find?_cons,e]
theorem Ti (k:κ):∀ kvs:List (κ × V),(kvs.any fun kv=>decide (kv.1=k))=(valV kvs k).isSome
 | []=>rfl
 | p::r=>by
   rw [List.any_cons]
   by_cases e:p.1=k
   . simp only [On e,decide_eq_true e,Bool.true_or,Option.isSome_some]
   . rw [Oo e,decide_eq_false e,Bool.false_or];exact Ti k r
theorem K3 (kvs:List (κ × V)) (k:κ) (v:V):(putK kvs k v).length<=kvs.length+1:=by
 unfold putK
 split
 . rw [List.length_map];omega
 . rw [List.length_append,List.length_cons,List.length_nil];omega
theorem RelO.isSome_eq {o:Option V}{u:Option Value} (r:RelO o u):o.isSome=u.isSome:=by
 cases o with
 | none=>cases u with
   | none=>rfl
   | some _=>exact (show False from r).elim
 | some _=>cases u with
   | none=>exact (show False from r).elim
   | some _=>rfl
theorem RelO.getD {o:Option V}{u:Option Value}{d:V}{d':Value} (r:RelO o u) (rd:RelV d d'):RelV (o.getD d) (u.getD d'):=by
 cases o with
 | none=>cases u with
   | none=>exact rd
   | some _=>exact (show False from r).elim
 | some _=>cases u with
   | none=>exact (show False from r).elim
   | some _=>exact r
theorem KV.val {kvs:List (κ × V)}{vs:List (κ × Value)} (r:KV kvs vs) (k:κ):RelO (valV kvs k) (valueAt vs k):=by
 unfold KV at r
 induction r with
 | nil=>exact True.intro
 | @cons p q ps qs h t ih =>
   obtain⟨h1,h2⟩:=h
   by_cases e:p.1=k
   . have e':q.1=k:=h1.symm.trans e
     have b:valueAt (q::qs) k=some q.2:=by simp [valueAt,List.find?_cons,e']
     rw [On e,b];exact h2
   . have e':¬q.1=k:=fun z=>e (h1.trans z)
     have b:valueAt (q::qs) k=valueAt qs k:=by simp [valueAt,List.find?_cons,e']
     rw [Oo e,b];exact ih
theorem KV.any {kvs:List (κ × V)}{vs:List (κ × Value)} (r:KV kvs vs) (k:κ):(kvs.any fun kv=>decide (kv.1=k))=vs.any fun kv=>decide (kv.1=k):=by
 unfold KV at r
 induction r with
 | nil=>rfl
 | cons h t ih=>rw [List.any_cons,List.any_cons,ih,h.1]
theorem KV.repl {kvs:List (κ × V)}{vs:List (κ × Value)} (r:KV kvs vs) (k:κ) {y:V}{u:Value} (ry:RelV y u) :
 KV (kvs.map fun kv=>if kv.1=k then (kv.1,y) else kv) (vs.map fun kv=>if kv.1=k then (kv.1,u) else kv):=by
 unfold KV at r ⊢
 induction r with
 | nil=>exact .nil
 | @cons p q ps qs h t ih =>
   rw [List.map_cons,List.map_cons]
   refine .cons ?_ ih
   obtain⟨h1,h2⟩:=h
   by_cases e:p.1=k
   . rw [if_pos e,if_pos (h1.symm.trans e)];exact ⟨h1,ry⟩
   . rw [if_neg e,if_neg (fun z=>e (h1.trans z))];exact ⟨h1,h2⟩
theorem KV.put {kvs:List (κ × V)}{vs:List (κ × Value)} (r:KV kvs vs) (k:κ) {y:V}{u:Value} (ry:RelV y u):KV (putK kvs k y) (stored vs k u):=by
 unfold putK stored
 rw [r.any k]
 by_cases e:(vs.any fun kv=>decide (kv.1=k))=true
 . rw [if_pos e,if_pos e];exact r.repl k ry
 . rw [if_neg e,if_neg e];exact Paired.snoc r ⟨rfl,ry⟩
theorem KV.drop {kvs:List (κ × V)}{vs:List (κ × Value)} (r:KV kvs vs) (k:κ):KV (Vc kvs k) (without vs k):=by
 unfold KV at r ⊢
 unfold Vc without
 induction r with
 | nil=>exact .nil
 | @cons p q ps qs h t ih =>
   obtain⟨h1,h2⟩:=h
   rw [List.filter_cons,List.filter_cons]
   by_cases e:p.1=k
   . have a:¬decide (p.1≠k)=true:=by simp [e]
     have b:¬decide (q.1≠k)=true:=by simp [h1.symm.trans e]
     rw [if_neg a,if_neg b];exact ih
   . have e':¬q.1=k:=fun z=>e (h1.trans z)
     have a:decide (p.1≠k)=true:=by simp [e]
     have b:decide (q.1≠k)=true:=by simp [e']
     rw [if_pos a,if_pos b];exact .cons ⟨h1,h2⟩ ih
theorem KV.keys {kvs:List (κ × V)}{vs:List (κ × Value)} (r:KV kvs vs):kvs.map (·.1)=vs.map (·.1):=by
 unfold KV at r
 induction r with
 | nil=>rfl
 | cons h t ih=>rw [List.map_cons,List.map_cons,ih,h.1]
theorem KV.length {kvs:List (κ × V)}{vs:List (κ × Value)} (r:KV kvs vs):kvs.length=vs.length:=Paired.length r
theorem p9 (kvs:List (κ × V)) (k:κ):(Vc kvs k).length<=kvs.length:=List.length_filter_le _ _
end
theorem kV_is {P:Program}{w:World}{k:Key}{u:Value} (r:RelV (kV k) u):(mixKind P w).is k u=true:=by
 cases k with
 | inl i=>obtain⟨t,e⟩:=(show ∃ t,u=Value.int i t from r);subst e;exact Zw P w i t
 | inr x=>obtain⟨t,e⟩:=(show ∃ t,u=Value.str x t from r);subst e;exact Zv P w x t
theorem W2 {P:Program}{w:World}:∀{ks:List Key}{us:List Value},Vals (ks.map kV) us->ItemsAre (mixKind P w) ks us
 | [],_,r=>by rw [List.map_nil] at r;cases r;exact .nil
 | k::ks,_,r=>by
   rw [List.map_cons] at r
   cases r with
   | cons h t=>exact .cons (kV_is h) (W2 t)
abbrev KT (H:Hp):List (List Key × V)->List (List Key × Addr × Value)->Prop:=Paired fun p q=>p.1=q.1/\H q.2.1=some (.tup (p.1.map kV))/\RelV p.2 q.2.2
theorem KT.val {H:Hp}{kvs:List (List Key × V)}{xs:List (List Key × Addr × Value)} (r:KT H kvs xs) (k:List Key):RelO (valV kvs k) ((atKey xs k).map (·.2)):=by
 induction r with
 | nil=>exact True.intro
 | @cons p q ps qs h t ih =>
   obtain⟨h1,_,h2⟩:=h
   by_cases e:p.1=k
   . have e':q.1=k:=h1.symm.trans e
     have b:atKey (q::qs) k=some q.2:=by simp [atKey,List.find?_cons,e']
     rw [On e,b];exact h2
   . have e':¬q.1=k:=fun z=>e (h1.trans z)
     have b:atKey (q::qs) k=atKey qs k:=by simp [atKey,List.find?_cons,e']
     rw [Oo e,b];exact ih
theorem KT.repl {H:Hp}{kvs:List (List Key × V)}{xs:List (List Key × Addr × Value)} (r:KT H kvs xs) (k:List Key) {y:V}{u:Value} (ry:RelV y u) :
 KT H (kvs.map fun kv=>if kv.1=k then (kv.1,y) else kv) (xs.map (putAt k u)):=by
 induction r with
 | nil=>exact .nil
 | @cons p q ps qs h t ih =>
   rw [List.map_cons,List.map_cons]
   refine .cons ?_ ih
   obtain⟨h1,h2,h3⟩:=h
   unfold putAt
   by_cases e:p.1=k
   . rw [if_pos e,if_pos (h1.symm.trans e)];exact ⟨h1,h2,ry⟩
   . rw [if_neg e,if_neg (fun z=>e (h1.trans z))];exact ⟨h1,h2,h3⟩
theorem KT.put {H:Hp}{kvs:List (List Key × V)}{xs:List (List Key × Addr × Value)} (r:KT H kvs xs) (k:List Key) {b:Addr}{y:V}{u:Value} (hb:H b=some (.tup (k.map kV))) (ry:RelV y u) :
 KT H (putK kvs k y) (storedH xs k b u):=by
 have e:(kvs.any fun kv=>decide (kv.1=k))=(atKey xs k).isSome:=by
  rw [Ti,(r.val k).isSome_eq,Option.isSome_map]
 unfold putK storedH
 rw [e]
 by_cases q:(atKey xs k).isSome=true
 . rw [if_pos q,if_pos q];exact r.repl k ry
 . rw [if_neg q,if_neg q];exact Paired.snoc r ⟨rfl,hb,ry⟩
theorem KT.keeps {H H':Hp}{kvs:List (List Key × V)}{xs:List (List Key × Addr × Value)} (r:KT H kvs xs) (ht:∀ b ys,H b=some (.tup ys)->H' b=some (.tup ys)):KT H' kvs xs :=
 Paired.mapP r fun _ _ z=>⟨z.1,ht _ _ z.2.1,z.2.2⟩
section
variable {P:Program}{w:World}{H:Hp}{h:Heap}{a:Addr}
theorem A70 {u:HO} (ok:HOk P w H h) (e:Rd H a u):ObjOk P w H h a u:=e.ok ok
theorem Qf {kvs:List (Key × V)} (ok:HOk P w H h) (e:Rd H a (.dK kvs)):kvs.length<=sizeLine/\(a==sysModules)=false/\∃ vs,KV kvs vs/\h.DictOf (mixKind P w) a vs :=
 show ObjOk P w H h a (.dK kvs) from A70 ok e
theorem Ac6 {kvs:List (Key × V)} (ok:HOk P w H h) (e:H a=some (.dK kvs)):kvs.length<=sizeLine/\(a==sysModules)=false/\∃ vs,KV kvs vs/\h.DictOf (mixKind P w) a vs:=Qf ok (.inl e)
theorem P0 {ks:List Key} (ok:HOk P w H h) (e:H a=some (.tup (ks.map kV))):(tupleKind (mixKind P w)).is h ks a:=by
 obtain⟨_,its,r,o,h1,h2,_,n,h3⟩:=(show ObjOk P w H h a (.tup (ks.map kV)) from ok a _ e)
 exact ⟨o,its.toArray,n,h1,h2,h3,by simpa using W2 r⟩
theorem c6 {kvs:List (List Key × V)} (ok:HOk P w H h) (e:Rd H a (.dT kvs)):kvs.length<=sizeLine/\(a==sysModules)=false ∧
 ∃ xs,KT H kvs xs/\h.DictOfH (tupleKind (mixKind P w)) a xs:=by
 obtain⟨z,y,xs,r,o,es,ep,h1,h2,h3,h4,h5⟩:=(show ObjOk P w H h a (.dT kvs) from A70 ok e)
 refine⟨z,y,xs,r,o,es,ep,h1,h2,h3,h4,fun x hx=>?_,h5⟩
 have all:∀{l:List (List Key × V)}{m:List (List Key × Addr × Value)},KT H l m->∀ x∈m,(tupleKind (mixKind P w)).is h x.1 x.2.1:=by
  intro l m q
  induction q with
  | nil=>intro x hx;exact nomatch hx
  | @cons p q ps qs hq t ih =>
    intro x hx
    rcases List.mem_cons.mp hx with e | hx
    . subst e
      exact P0 ok (by rw [←hq.1];exact hq.2.1)
    . exact ih x hx
 exact all r x hx
theorem Bf4 {kvs:List (List Key × V)} (ok:HOk P w H h) (e:H a=some (.dT kvs)):kvs.length<=sizeLine/\(a==sysModules)=false ∧
 ∃ xs,KT H kvs xs/\h.DictOfH (tupleKind (mixKind P w)) a xs:=c6 ok (.inl e)
end
def DGet (H:Hp) (a:Addr) (y:V) (r:Option V):Prop :=
 (∃ kvs k,Rd H a (.dK kvs)/\y=kV k/\r=valV kvs k)\/∃ kvs k b,Rd H a (.dT kvs)/\y=.ref b/\H b=some (.tup (k.map kV))/\r=valV kvs k
def DPut (H:Hp) (a:Addr) (y v:V) (H':Hp):Prop :=
 (∃ kvs k,H a=some (.dK kvs)/\y=kV k/\kvs.length<sizeLine/\H'=upd H a (.dK (putK kvs k v))) ∨
 ∃ kvs k b,H a=some (.dT kvs)/\y=.ref b/\H b=some (.tup (k.map kV))/\kvs.length<sizeLine/\H'=upd H a (.dT (putK kvs k v))
theorem DGet.k {H:Hp}{a:Addr}{kvs:List (Key × V)}{k:Key} (e:H a=some (.dK kvs)):DGet H a (kV k) (valV kvs k):=.inl ⟨kvs,k,.inl e,rfl,rfl⟩
section
variable {X:Cx}{Aa:List (Addr × Obj)}{σ:St}{H:Hp}{s:Shared}{a:Addr}{y v:V}{u r:Value}{o:Option V}{A:Around}{E:Value->Shared->Prop}
theorem Inv.big (I:Inv X Aa σ H s):sysModules<s.heap.objs.size:=by
 have h:mainGlobals<s.heap.objs.size:=(I.mod.glob.keeps I.bk).lt
 exact Nat.lt_trans (by decide) h
theorem An1 {Q:Value->Shared->Prop} (hu:A.units+1<cLine) (I:Inv X Aa σ H s) (g:DGet H a y (some v)) (ry:RelV y u) (h:∀ w' s',Inv X Aa σ H s'->RelV v w'->Q w' s') :
 wpAny (model X.prog X.w) A (getItem (.ref a) u) Q E s:=by
 rcases g with ⟨kvs,k,e,ey,l⟩|⟨kvs,k,b,e,ey,eb,l⟩
 . subst ey
   obtain⟨z,hd,vs,rel,dd⟩:=Qf I.hok e
   obtain⟨w',hw,rw'⟩:=RelO.some_of (v:=v) (o:=valueAt vs k) (by rw [l];exact rel.val k)
   exact wpAny_getItem_of (kV_is ry) dd.mapOf hw (h w' _ (I.tok _) rw')
 . subst ey
   cases (show u=Value.ref b from ry)
   obtain⟨z,hd,xs,rel,dd⟩:=c6 I.hok e
   obtain⟨w',hw,rw'⟩:=RelO.some_of (v:=v) (o:=(atKey xs k).map (·.2)) (by rw [l];exact rel.val k)
   obtain⟨p,hp,hp2⟩:=Option.map_eq_some_iff.mp hw
   refine wpAny_getItem_heap (tupleKind_room_in1 hu) (P0 I.hok eb) dd hp ?_
   rw [hp2]
   exact h w' _ (I.tok _) rw'
theorem d_in {Q:Value->Shared->Prop} (hu:A.units+1<cLine) (I:Inv X Aa σ H s) (g:DGet H a y o) (ry:RelV y u) (h:∀ s',Inv X Aa σ H s'->Q (.bool o.isSome) s') :
 wpAny (model X.prog X.w) A (compareOp .In u (.ref a)) Q E s:=by
 rcases g with ⟨kvs,k,e,ey,l⟩|⟨kvs,k,b,e,ey,eb,l⟩
 . subst ey
   obtain⟨z,hd,vs,rel,dd⟩:=Qf I.hok e
   refine wpAny_in_of (kV_is ry) hd dd.mapOf ?_
   rw [←(rel.val k).isSome_eq,←l]
   exact h _ (I.tok _)
 . subst ey
   cases (show u=Value.ref b from ry)
   obtain⟨z,hd,xs,rel,dd⟩:=c6 I.hok e
   refine wpAny_in_heap (tupleKind_room_in1 hu) (P0 I.hok eb) hd dd ?_
   have q:=(rel.val k).isSome_eq
   rw [Option.isSome_map] at q
   rw [←q,←l]
   exact h _ (I.tok _)
theorem Nm {h':Heap}{t':Nat}{ob:HO} (I:Inv X Aa σ H s) (mu:Mut (H a)) (hs:Heap.SameBut a s.heap h') (he:∃ q,h'.get? a=some q) (new:ObjOk X.prog X.w (upd H a ob) h' a ob) :
 Inv X Aa σ (upd H a ob) { s with heap:=h',toks:=t' } :=
 I.write (x:=a) (e:=a) mu (.inl rfl) (fun b q hb z=>(hs.2 b hb).trans z) he new
theorem Ss {P:Program}{w:World}{H':Hp}{h':Heap}{kvs:List (Key × V)}{vs:List (Key × Value)} (z:kvs.length<=sizeLine) (hd:(a==sysModules)=false) (rel:KV kvs vs) (dd:h'.DictOf (mixKind P w) a vs) :
 ObjOk P w H' h' a (.dK kvs):=⟨z,hd,vs,rel,dd⟩
theorem An0 {H':Hp}{Q:Unit->Shared->Prop} (hu:A.units+1<cLine) (I:Inv X Aa σ H s) (g:DPut H a y v H') (ry:RelV y u) (rv:RelV v r) (h:∀ s',Inv X Aa σ H' s'->Q () s') :
 wpAny (model X.prog X.w) A (setItem (.ref a) u r) Q E s:=by
 rcases g with ⟨kvs,k,e,ey,l,eH⟩|⟨kvs,k,b,e,ey,eb,l,eH⟩
 . subst ey eH
   obtain⟨z,hd,vs,rel,dd⟩:=Ac6 I.hok e
   have hz:vs.length<=sizeLine:=by rw [←rel.length];exact z
   have hl:(putK kvs k v).length<=sizeLine:=by have:=K3 kvs k v;omega
   refine wpAny_setItem_pairs (hsz:=hz) (kV_is ry) dd fun h' dd' hs=>h _ ?_
   have he:∃ q,h'.get? a=some q:=let ⟨q,_,_,hq,_⟩:=dd';⟨q,hq⟩
   exact Nm I (by rw [e];exact True.intro) hs he (Ss hl hd (rel.put k rv) dd')
 . subst ey eH
   cases (show u=Value.ref b from ry)
   obtain⟨z,hd,xs,rel,dd⟩:=Bf4 I.hok e
   have hz:xs.length<=sizeLine:=by rw [←Paired.length rel];exact z
   have hl:(putK kvs k v).length<=sizeLine:=by have:=K3 kvs k v;omega
   refine wpAny_setItem_heap (hsz:=hz) (tupleKind_room_in1 hu) (P0 I.hok eb) dd fun h' dd' hs=>h _ ?_
   obtain⟨q,es,ep,hq,h2,h3,h4,_,h5⟩:=dd'
   refine Nm I (by rw [e];exact True.intro) hs ⟨q,hq⟩ ⟨hl,hd,_,(rel.put k eb rv).keeps fun c ys ec=>?_,q,es,ep,hq,h2,h3,h4,h5⟩
   rw [Ae (Gs ec e (fun z=>nomatch z))]
   exact ec
end
section
variable {X:Cx}{Aa:List (Addr × Obj)}{σ:St}{H:Hp}{s:Shared}{a:Addr}{kvs:List (Key × V)}{k:Key}{u:Value}{A:Around}{E:Value->Shared->Prop}
theorem Bc2 {Q:Unit->Shared->Prop} (I:Inv X Aa σ H s) (e:H a=some (.dK kvs)) (ry:RelV (kV k) u) (l:(valV kvs k).isSome=true) (h:∀ s',Inv X Aa σ (upd H a (.dK (Vc kvs k))) s'->Q () s') :
 wpAny (model X.prog X.w) A (delItem (.ref a) u) Q E s:=by
 obtain⟨z,hd,vs,rel,dd⟩:=Ac6 I.hok e
 refine wpAny_delItem_slot dd.typeIs (by decide) PySem.F.slot_dict_delitem
  (call_meetsIn PySem.F.slot_dict_delitem dd.typeIs PySem.F.entry_dict_delitem (PySem.F.args_dict_delitem_2 _ _) (meets_dict_delitem_pairs (mixKind X.prog X.w) a (kV_is ry)) ⟨vs,dd,by rw [←rel.length];exact z,by rw [←(rel.val k).isSome_eq];exact l,fun h' dd' hs=>h _ ?_⟩)
 have he:∃ q,h'.get? a=some q:=let ⟨q,_,_,hq,_⟩:=dd';⟨q,hq⟩
 exact Nm I (by rw [e];exact True.intro) hs he (Ss (Nat.le_trans (p9 kvs k) z) hd (rel.drop k) dd')
theorem Bb9 {v:V}{more:List Value}{Q:Value->Shared->Prop} (I:Inv X Aa σ H s) (e:H a=some (.dK kvs)) (ry:RelV (kV k) u) (l:valV kvs k=some v) (hm:more=[]\/∃ x,more=[x])
 (h:∀ w' s',Inv X Aa σ (upd H a (.dK (Vc kvs k))) s'->RelV v w'->Q w' s'):wpAny (model X.prog X.w) A (call (.builtin "dict.pop") (.ref a::u::more)) Q E s:=by
 obtain⟨z,hd,vs,rel,dd⟩:=Ac6 I.hok e
 obtain⟨w',hw,rw'⟩:=RelO.some_of (v:=v) (o:=valueAt vs k) (by rw [←l];exact rel.val k)
 have hp:(keyPart u).isSome=true:=by
  cases k with
  | inl i=>obtain⟨t,q⟩:=(show ∃ t,u=Value.int i t from ry);subst q;rfl
  | inr x=>obtain⟨t,q⟩:=(show ∃ t,u=Value.str x t from ry);subst q;rfl
 have ha:argsOk "dict.pop" ⟨.ref a::u::more,[]⟩:=by
  rcases hm with q|⟨x,q⟩
  . subst q;exact PySem.F.args_dict_pop_2 _ _
  . subst q;exact PySem.F.args_dict_pop_3 _ _ _
 refine call_meetsIn PySem.F.slot_dict_pop dd.typeIs PySem.F.entry_dict_pop ha (meets_dict_pop_there (mixKind X.prog X.w) a (kV_is ry) more hm hp)
  ⟨vs,w',dd,by rw [←rel.length];exact z,hw,fun h' dd' hs=>h w' _ ?_ rw'⟩
 have he:∃ q,h'.get? a=some q:=let ⟨q,_,_,hq,_⟩:=dd';⟨q,hq⟩
 exact Nm I (by rw [e];exact True.intro) hs he (Ss (Nat.le_trans (p9 kvs k) z) hd (rel.drop k) dd')
theorem Bb8 {r:Value}{Q:Value->Shared->Prop} (I:Inv X Aa σ H s) (e:H a=some (.dK kvs)) (ry:RelV (kV k) u) (l:valV kvs k=none) (h:∀ s',Inv X Aa σ H s'->Q r s') :
 wpAny (model X.prog X.w) A (call (.builtin "dict.pop") [.ref a,u,r]) Q E s:=by
 obtain⟨z,hd,vs,rel,dd⟩:=Ac6 I.hok e
 have hn:valueAt vs k=none:=RelO.none_of (by rw [←l];exact rel.val k)
 have hp:(keyPart u).isSome=true:=by
  cases k with
  | inl i=>obtain⟨t,q⟩:=(show ∃ t,u=Value.int i t from ry);subst q;rfl
  | inr x=>obtain⟨t,q⟩:=(show ∃ t,u=Value.str x t from ry);subst q;rfl
 exact call_meetsIn PySem.F.slot_dict_pop dd.typeIs PySem.F.entry_dict_pop (PySem.F.args_dict_pop_3 _ _ _) (meets_dict_pop_default (mixKind X.prog X.w) a (kV_is ry) hd hp r) ⟨vs,dd,hn,h _ (I.tok _)⟩
theorem Bf5 {Q:Value->Shared->Prop} (I:Inv X Aa σ H s) (e:Rd H a (.dK kvs)) (h:∀ t s',Inv X Aa σ H s'->Q (.int kvs.length t) s'):wpAny (model X.prog X.w) A (call (.builtin "len") [.ref a]) Q E s:=by
 obtain⟨z,hd,vs,rel,dd⟩:=Qf I.hok e
 refine call_len_dict hd dd (by rw [←rel.length];rw [sizeLine_eq] at z;omega) ?_
 rw [←rel.length]
 exact h _ _ (I.tok _)
end
def NoSl (i:Expr):Prop:=∀ ov iv,subscripted i false ov iv=operate [ov,iv] (getItem ov iv)
theorem Ax9 {prog:Program}{w:World}{A:Around}{E:Value->Shared->Prop}{s:Shared}{env:Env}{value slice:Expr}{pos:Pos}{T id:String}{Q:Value->Shared->Prop}
 (hl:typeLookup (.type T) "__getitem__"=pure (some (.builtin id))) (hs:NoSl slice)
 (h:wpAny (model prog w) A (eval value env) (fun o s₁=>wpAny (model prog w) A (eval slice env) (fun i s₂=>s₂.TypeIs o T/\wpAny (model prog w) A (getItem o i) Q E s₂) E s₁) E s) :
 wpAny (model prog w) A (eval (.Subscript value slice pos) env) Q E s:=by
 refine Subscript_ (wpAny_mono h (fun o s₁ h₁=>wpAny_mono h₁ (fun i s₂ h₂=>?_) fun _ _ x=>x) fun _ _ x=>x)
 obtain⟨hT,h₂⟩:=h₂
 unfold subscriptTail
 refine wpAny_bind ?_
 rw [getitemInPython_of_ne hT.not_modules]
 refine wpAny_bind (wpAny_specialOf hT hl ?_)
 have fin:wpAny (model prog w) A (subscripted slice false o i) (fun r s₃=>wpAny (model prog w) A (letTemporaryGo value o r>>=fun _=>pure r) Q E s₃) E s₂:=by
  rw [hs o i]
  exact wpAny_operating (wpAny_mono h₂ (fun r s₃ h₃=>wpAny_bind (wpAny_letTemporaryGo (wpAny_pure h₃))) fun _ _ x=>x)
 first
  | exact wpAny_pure (wpAny_bind fin)
  | exact wpAny_bind (wpAny_pure (wpAny_bind fin))
  | exact wpAny_bind fin
theorem c8 {X:Cx}{Aa:List (Addr × Obj)}{σ:St}{H:Hp}{s:Shared}{a:Addr}{y:V}{o:Option V} (I:Inv X Aa σ H s) (g:DGet H a y o):s.TypeIs (.ref a) "dict":=by
 rcases g with ⟨kvs,k,e,_,_⟩|⟨kvs,k,b,e,_,_,_⟩
 . obtain⟨_,_,vs,_,dd⟩:=Qf I.hok e
   exact dd.typeIs
 . obtain⟨_,_,xs,_,dd⟩:=c6 I.hok e
   exact dd.typeIs
def Bd4 (td ty:TE):TE:=fun σ H Q=>td σ H fun x H1=>ty σ H1 fun y H2=>∃ a v,x=.ref a/\DGet H2 a y (some v)/\Q v H2
def Bd6 (td ty tv:TE):TS:=fun D σ H=>tv σ H fun v H1=>td σ H1 fun x H2=>ty σ H2 fun y H3=>∃ a H4,x=.ref a/\DPut H3 a y v H4/\D.nx σ H4
section
variable {X:Cx}{o i e value:Expr}{pos pos' tpos:Pos}{td ty tv:TE}
theorem Ez (hu:X.A.units+1<cLine) (ho:PE X o td) (hi:PE X i ty) (hs:NoSl i):PE X (.Subscript o i pos) (Bd4 td ty):=by
 intro Aa s σ H Q I h
 refine Ax9 PySem.F.slot_dict_getitem.lookup hs (thn (ho Aa s σ H _ I h) fun u s1 ⟨x,H1,I1,rx,q1⟩=>thn (hi Aa s1 σ H1 _ I1 q1) fun iv s2 ⟨y,H2,I2,ry,a,v,ex,g,q2⟩=>?_)
 subst ex
 obtain rfl:u=Value.ref a:=rx
 exact ⟨c8 I2 g,An1 hu I2 g ry fun w' s3 I3 rw'=>⟨v,H2,I3,rw',q2⟩⟩
theorem Pe (hu:X.A.units+1<cLine) (ho:PE X o td) (hi:PE X i ty) (hv:PE X value tv) (hs:swapsWith value (some (.Subscript o i pos')) pos.line X.env=pure false) :
 PS X (.Assign [.Subscript o i pos'] value pos) (Bd6 td ty tv):=by
 intro Aa s σ H D I h
 refine wpAny_Assign_Subscript (thn (hv Aa s σ H _ I h) fun r s1 ⟨v,H1,I1,rv,q1⟩=>thn (ho Aa s1 σ H1 _ I1 q1) fun u s2 ⟨x,H2,I2,rx,q2⟩=>thn (hi Aa s2 σ H2 _ I2 q2) fun iv s3 ⟨y,H3,I3,ry,a,H4,ex,g,q3⟩=>?_) hs
 subst ex
 obtain rfl:u=Value.ref a:=rx
 exact An0 hu I3 g ry rv fun s4 I4=>⟨σ,H4,I4,q3⟩
end
theorem dk_empty {P:Program}{w:World}{H:Hp} (h:Heap) (hb:sysModules<h.objs.size):ObjOk P w H (h.push { cls:=.type "dict",data:=.dict #[] }) h.objs.size (.dK []) :=
 ⟨Nat.zero_le _,beq_eq_false_iff_ne.mpr (Ne.symm (Nat.ne_of_lt hb)),[],.nil,Heap.DictOf.new h⟩
def A60:TE:=fun _ H Q=>∀ p,H p=none->Q (.ref p) (upd H p (.dK []))
section
variable {X:Cx}{pos:Pos}
theorem Fg:PE X (.Dict [] [] pos) A60:=fun Aa s σ H Q I h =>
 wpAny_Dict_empty ⟨.ref s.heap.objs.size,_,I.laid (a:=s.heap.objs.size) (o:=.dK []) (t':=s.toks) (fun _ _ q=>Heap.get?_push_of_some _ q) (Nat.le_refl _) (dk_empty s.heap I.big),rfl,h _ (I.hok.fresh (Nat.le_refl _))⟩
end
def tPairs:List (TE × TE)->St->Hp->(List (V × V)->Hp->Prop)->Prop
 | [],_,H,Q=>Q [] H
 | (tk,tv)::r,σ,H,Q=>tk σ H fun x H1=>tv σ H1 fun y H2=>tPairs r σ H2 fun ps H3=>Q ((x,y)::ps) H3
abbrev VV:List (V × V)->List (Value × Value)->Prop:=Paired fun p q=>RelV p.1 q.1/\RelV p.2 q.2
def PPs (X:Cx) (pos:Pos) (keys:List (Option Expr)) (values:List Expr) (trs:List (TE × TE)):Prop :=
 ∀ (Aa:List (Addr × Obj)) (s:Shared) (σ:St) (H:Hp) (Q:List (V × V)->Hp->Prop),Inv X Aa σ H s->tPairs trs σ H Q →
   wpAny (model X.prog X.w) X.A (evalPairs (pairTrees keys values X.env pos)) (fun vs s'=>∃ ps H',Inv X Aa σ H' s'/\VV ps vs/\Q ps H') X.xe s
theorem T6 {X:Cx}{pos:Pos}:PPs X pos [] [] []:=fun Aa s σ H Q I h=>pairTrees_nil_walk ⟨[],H,I,.nil,h⟩
theorem Oq {X:Cx}{pos:Pos}{k v:Expr}{ks:List (Option Expr)}{vs:List Expr}{tk tv:TE}{trs:List (TE × TE)} (hk:PE X k tk) (hv:PE X v tv) (hr:PPs X pos ks vs trs) :
 PPs X pos (some k::ks) (v::vs) ((tk,tv)::trs):=fun Aa s σ H Q I h =>
 pairTrees_cons_walk (thn (hk Aa s σ H _ I h) fun u s1 ⟨x,H1,I1,rx,q1⟩=>thn (hv Aa s1 σ H1 _ I1 q1) fun w2 s2 ⟨y,H2,I2,ry,q2⟩ =>
  thn (hr Aa s2 σ H2 _ I2 q2) fun ws s3 ⟨ps,H3,I3,rel,q3⟩=>⟨(x,y)::ps,H3,I3,.cons ⟨rx,ry⟩ rel,q3⟩)
def C8 (kvs more:List (Key × V)):List (Key × V):=more.foldl (fun acc kv=>putK acc kv.1 kv.2) kvs
theorem KV.merge:∀{more:List (Key × V)}{rs:List (Key × Value)}{kvs:List (Key × V)}{vs:List (Key × Value)},KV more rs->KV kvs vs->KV (C8 kvs more) (merged vs rs):=by
 intro more rs kvs vs r
 unfold KV at r
 induction r generalizing kvs vs with
 | nil=>intro q;exact q
 | @cons p q ps qs h t ih =>
   intro r0
   have e:KV (putK kvs p.1 p.2) (stored vs q.1 q.2):=by
    have:=r0.put p.1 h.2
    rw [←h.1];exact this
   exact ih e
theorem Gz:∀ (more kvs:List (Key × V)),(C8 kvs more).length<=kvs.length+more.length
 | [],kvs=>by show kvs.length<=kvs.length+0;omega
 | p::r,kvs=>by
   have h1:=Gz r (putK kvs p.1 p.2)
   have h2:=K3 kvs p.1 p.2
   show (C8 (putK kvs p.1 p.2) r).length<=_
   rw [List.length_cons];omega
theorem S0 {P:Program}{w:World}:∀{kvs:List (Key × V)}{ws:List (Value × Value)},VV (kvs.map fun kv=>(kV kv.1,kv.2)) ws->∃ rs,Carries (mixKind P w) ws rs/\KV kvs rs
 | [],_,r=>by rw [List.map_nil] at r;cases r;exact ⟨[],True.intro,.nil⟩
 | p::kvs,_,r=>by
   rw [List.map_cons] at r
   cases r with
   | @cons a b as bs h t =>
     obtain⟨rs,c,q⟩:=S0 (P:=P) (w:=w) t
     obtain⟨b1,b2⟩:=b
     exact ⟨(p.1,b2)::rs,⟨kV_is h.1,rfl,c⟩,.cons ⟨rfl,h.2⟩ q⟩
def Bd3 (trs:List (TE × TE)):TE:=fun σ H Q=>∀ p,H p=none->tPairs trs σ (upd H p (.dK [])) fun ps H2=>H2 p=some (.dK [])/\∃ kvs:List (Key × V),ps=kvs.map (fun kv=>(kV kv.1,kv.2))/\kvs.length<=15/\Q (.ref p) (upd H2 p (.dK (C8 [] kvs)))
theorem Y7 {X:Cx}{pos:Pos}{keys:List (Option Expr)}{values:List Expr}{trs:List (TE × TE)} (h:PPs X pos keys values trs) (hall:keys.all (·.isSome)=true) (hl:keys.length=values.length) (h0:keys≠[])
 (h15:keys.length<=15):PE X (.Dict keys values pos) (Bd3 trs):=by
 intro Aa s σ H Q I q
 have hn:=I.hok.fresh (Nat.le_refl s.heap.objs.size)
 have I1:=I.laid (a:=s.heap.objs.size) (o:=.dK []) (h':=s.heap.push { cls:=.type "dict",data:=.dict #[] }) (t':=s.toks) (fun _ _ q=>Heap.get?_push_of_some _ q) (Nat.le_refl _) (dk_empty s.heap I.big)
 refine wpAny_Dict_walk (knd:=mixKind X.prog X.w) hall hl h0 h15 (thn (h Aa _ σ _ _ I1 (q _ hn)) fun ws s2 ⟨ps,H2,I2,rel,e,kvs,ep,lk,q2⟩=>?_)
 subst ep
 obtain⟨rs,c,rk⟩:=S0 (P:=X.prog) (w:=X.w) rel
 obtain⟨z,hd,vs0,r0,dd⟩:=Ac6 I2.hok e
 cases r0
 refine⟨rs,c,dd,fun h' dd' hs=>⟨.ref s.heap.objs.size,_,?_,rfl,q2⟩⟩
 have hz:(C8 [] kvs).length<=sizeLine:=by
  have h1:=Gz kvs []
  rw [List.length_nil] at h1
  rw [sizeLine_eq];omega
 have he:∃ q,h'.get? s.heap.objs.size=some q:=let ⟨q,_,_,hq,_⟩:=dd';⟨q,hq⟩
 exact Nm I2 (by rw [e];exact True.intro) hs he (Ss hz hd (rk.merge .nil) dd')
structure M1 (X:Cx) (o:Expr) (m:Str) (apos:Pos) (e:Expr) (cpos:Pos):Prop where
 base:attributeBase o m X.env (eval o X.env)=eval o X.env
 few:((backTo cpos (starEach [e] X.env)).all (fun x=>!x.1)&&(backToKw cpos (keywordEach [] X.env)).all (fun x=>x.1.isSome)
  && decide (([e]:List Expr).length+([]:List Keyword).length+(if ([]:List Keyword).isEmpty then 0 else 1)<30))=true
 line:(apos.endLine==cpos.line)=true
 trees:backTo cpos (starEach [e] X.env)=[(false,eval e X.env)]
structure M2 (X:Cx) (o:Expr) (m:Str) (apos:Pos) (e f:Expr) (cpos:Pos):Prop where
 base:attributeBase o m X.env (eval o X.env)=eval o X.env
 few:((backTo cpos (starEach [e,f] X.env)).all (fun x=>!x.1)&&(backToKw cpos (keywordEach [] X.env)).all (fun x=>x.1.isSome)
  && decide (([e,f]:List Expr).length+([]:List Keyword).length+(if ([]:List Keyword).isEmpty then 0 else 1)<30))=true
 line:(apos.endLine==cpos.line)=true
 trees:backTo cpos (starEach [e,f] X.env)=[(false,eval e X.env),(false,eval f X.env)]
def IsD (H:Hp) (a:Addr):Prop:=(∃ kvs,Rd H a (.dK kvs))\/∃ kvs,Rd H a (.dT kvs)
theorem p6 {X:Cx}{Aa:List (Addr × Obj)}{σ:St}{H:Hp}{s:Shared}{a:Addr} (I:Inv X Aa σ H s) (d:IsD H a) :
 s.TypeIs (.ref a) "dict"/\(∀ b,Value.ref a=.ref b->∃ ob,s.heap.get? b=some ob/\ob.dict=none)/\(a==sysModules)=false:=by
 rcases d with ⟨kvs,e⟩|⟨kvs,e⟩
 . obtain⟨_,hd,vs,_,dd⟩:=Qf I.hok e
   refine⟨dd.typeIs,fun b q=>?_,hd⟩
   cases q
   obtain⟨ob,_,_,h1,h2,_⟩:=dd
   exact ⟨ob,h1,h2.2.1⟩
 . obtain⟨_,hd,xs,_,dd⟩:=c6 I.hok e
   refine⟨dd.typeIs,fun b q=>?_,hd⟩
   cases q
   obtain⟨ob,_,_,h1,h2,_⟩:=dd
   exact ⟨ob,h1,h2.2.1⟩
section
variable {X:Cx}{Aa:List (Addr × Obj)}{σ:St}{H:Hp}{s:Shared}{a:Addr}{y d:V}{u r:Value}{o:Option V}{A:Around}{E:Value->Shared->Prop}
theorem Bc1 {Q:Value->Shared->Prop} (hu:A.units+1<cLine) (I:Inv X Aa σ H s) (g:DGet H a y o) (ry:RelV y u) (h:∀ w' s',Inv X Aa σ H s'->RelV (o.getD .non) w'->Q w' s') :
 wpAny (model X.prog X.w) A (call (.builtin "dict.get") [.ref a,u]) Q E s:=by
 rcases g with ⟨kvs,k,e,ey,l⟩|⟨kvs,k,b,e,ey,eb,l⟩
 . subst ey
   obtain⟨z,hd,vs,rel,dd⟩:=Qf I.hok e
   refine call_meetsIn PySem.F.slot_dict_get dd.typeIs PySem.F.entry_dict_get (PySem.F.args_dict_get_2 _ _) (meets_dict_get (mixKind X.prog X.w) a (kV_is ry) hd) ⟨_,dd.mapOf,h _ _ (I.tok _) ?_⟩
   rw [l]
   exact (rel.val k).getD rfl
 . subst ey
   cases (show u=Value.ref b from ry)
   obtain⟨z,hd,xs,rel,dd⟩:=c6 I.hok e
   refine call_meetsIn PySem.F.slot_dict_get dd.typeIs PySem.F.entry_dict_get (PySem.F.args_dict_get_2 _ _) (meetsH_dict_get (tupleKind (mixKind X.prog X.w)) a b hd) ⟨tupleKind_room_in1 hu,k,xs,P0 I.hok eb,dd,h _ _ (I.tok _) ?_⟩
   rw [l]
   exact (rel.val k).getD rfl
theorem Bc0 {Q:Value->Shared->Prop} (hu:A.units+1<cLine) (I:Inv X Aa σ H s) (g:DGet H a y o) (ry:RelV y u) (rd:RelV d r) (h:∀ w' s',Inv X Aa σ H s'->RelV (o.getD d) w'->Q w' s') :
 wpAny (model X.prog X.w) A (call (.builtin "dict.get") [.ref a,u,r]) Q E s:=by
 rcases g with ⟨kvs,k,e,ey,l⟩|⟨kvs,k,b,e,ey,eb,l⟩
 . subst ey
   obtain⟨z,hd,vs,rel,dd⟩:=Qf I.hok e
   refine call_meetsIn PySem.F.slot_dict_get dd.typeIs PySem.F.entry_dict_get (PySem.F.args_dict_get_3 _ _ _) (meets_dict_get_default (mixKind X.prog X.w) a (kV_is ry) hd r) ⟨_,dd.mapOf,h _ _ (I.tok _) ?_⟩
   rw [l]
   exact (rel.val k).getD rd
 . subst ey
   cases (show u=Value.ref b from ry)
   obtain⟨z,hd,xs,rel,dd⟩:=c6 I.hok e
   refine call_meetsIn PySem.F.slot_dict_get dd.typeIs PySem.F.entry_dict_get (PySem.F.args_dict_get_3 _ _ _) (meetsH_dict_get_default (tupleKind (mixKind X.prog X.w)) a b hd r) ⟨tupleKind_room_in1 hu,k,xs,P0 I.hok eb,dd,h _ _ (I.tok _) ?_⟩
   rw [l]
   exact (rel.val k).getD rd
end
def tDGet1 (td ty:TE):TE:=fun σ H Q=>td σ H fun x H1=>∃ a,x=.ref a/\IsD H1 a/\ty σ H1 fun y H2=>∃ o,DGet H2 a y o/\Q (o.getD .non) H2
def A61 (td ty tx:TE):TE:=fun σ H Q=>td σ H fun x H1=>∃ a,x=.ref a/\IsD H1 a/\ty σ H1 fun y H2=>tx σ H2 fun z H3=>∃ o,DGet H3 a y o/\Q (o.getD z) H3
def A59 (td ty:TE):TE:=fun σ H Q=>td σ H fun x H1=>∃ a,x=.ref a/\IsD H1 a/\ty σ H1 fun y H2=>∃ kvs k v,H2 a=some (.dK kvs)/\y=kV k/\valV kvs k=some v/\Q v (upd H2 a (.dK (Vc kvs k)))
def A58 (td ty tx:TE):TE:=fun σ H Q=>td σ H fun x H1=>∃ a,x=.ref a/\IsD H1 a/\ty σ H1 fun y H2=>tx σ H2 fun z H3=>∃ kvs k,H3 a=some (.dK kvs)/\y=kV k ∧
 (∀ v,valV kvs k=some v->Q v (upd H3 a (.dK (Vc kvs k))))/\(valV kvs k=none->Q z H3)
section
variable {X:Cx}{o e f:Expr}{apos cpos:Pos}{td ty tx:TE}
theorem As3 (hu:X.A.units+1<cLine) (ho:PE X o td) (he:PE X e ty) (m:M1 X o "get" apos e cpos):PE X (.Call (.Attribute o "get" apos) [e] [] cpos) (tDGet1 td ty):=by
 intro Aa s σ H Q I h
 refine wpAny_Call_method m.base m.few m.line PySem.F.plainAttrs_dict PySem.F.slot_dict_get PySem.F.type_dict_get (thn (ho Aa s σ H _ I h) fun u s1 ⟨x,H1,I1,rx,a,ex,d,q1⟩=>?_)
 subst ex
 obtain rfl:u=Value.ref a:=rx
 obtain⟨t1,t2,_⟩:=p6 I1 d
 refine⟨t1,t2,?_⟩
 rw [m.trees]
 refine Calls.callWith_builtin rfl (Calls.evalArgs_plain (Calls.spliced_cons (thn (he Aa s1 σ H1 _ I1 q1) fun iv s2 ⟨y,H2,I2,ry,ov,g,q2⟩=>Calls.spliced_nil ?_)))
 exact Bc1 hu I2 g ry fun w' s3 I3 rw'=>⟨_,H2,I3,rw',q2⟩
theorem Uf (hu:X.A.units+1<cLine) (ho:PE X o td) (he:PE X e ty) (hf:PE X f tx) (m:M2 X o "get" apos e f cpos):PE X (.Call (.Attribute o "get" apos) [e,f] [] cpos) (A61 td ty tx):=by
 intro Aa s σ H Q I h
 refine wpAny_Call_method m.base m.few m.line PySem.F.plainAttrs_dict PySem.F.slot_dict_get PySem.F.type_dict_get (thn (ho Aa s σ H _ I h) fun u s1 ⟨x,H1,I1,rx,a,ex,d,q1⟩=>?_)
 subst ex
 obtain rfl:u=Value.ref a:=rx
 obtain⟨t1,t2,_⟩:=p6 I1 d
 refine⟨t1,t2,?_⟩
 rw [m.trees]
 refine Calls.callWith_builtin rfl (Calls.evalArgs_plain (Calls.spliced_cons (thn (he Aa s1 σ H1 _ I1 q1) fun iv s2 ⟨y,H2,I2,ry,q2⟩ =>
  Calls.spliced_cons (thn (hf Aa s2 σ H2 _ I2 q2) fun fv s3 ⟨z,H3,I3,rz,ov,g,q3⟩=>Calls.spliced_nil ?_))))
 exact Bc0 hu I3 g ry rz fun w' s4 I4 rw'=>⟨_,H3,I4,rw',q3⟩
theorem As1 (ho:PE X o td) (he:PE X e ty) (m:M1 X o "pop" apos e cpos):PE X (.Call (.Attribute o "pop" apos) [e] [] cpos) (A59 td ty):=by
 intro Aa s σ H Q I h
 refine wpAny_Call_method m.base m.few m.line PySem.F.plainAttrs_dict PySem.F.slot_dict_pop PySem.F.type_dict_pop (thn (ho Aa s σ H _ I h) fun u s1 ⟨x,H1,I1,rx,a,ex,d,q1⟩=>?_)
 subst ex
 obtain rfl:u=Value.ref a:=rx
 obtain⟨t1,t2,_⟩:=p6 I1 d
 refine⟨t1,t2,?_⟩
 rw [m.trees]
 refine Calls.callWith_builtin rfl (Calls.evalArgs_plain (Calls.spliced_cons (thn (he Aa s1 σ H1 _ I1 q1) fun iv s2 ⟨y,H2,I2,ry,kvs,k,v,ea,ey,l,q2⟩=>Calls.spliced_nil ?_)))
 subst ey
 exact Bb9 I2 ea ry l (.inl rfl) fun w' s3 I3 rw'=>⟨v,_,I3,rw',q2⟩
theorem As0 (ho:PE X o td) (he:PE X e ty) (hf:PE X f tx) (m:M2 X o "pop" apos e f cpos):PE X (.Call (.Attribute o "pop" apos) [e,f] [] cpos) (A58 td ty tx):=by
 intro Aa s σ H Q I h
 refine wpAny_Call_method m.base m.few m.line PySem.F.plainAttrs_dict PySem.F.slot_dict_pop PySem.F.type_dict_pop (thn (ho Aa s σ H _ I h) fun u s1 ⟨x,H1,I1,rx,a,ex,d,q1⟩=>?_)
 subst ex
 obtain rfl:u=Value.ref a:=rx
 obtain⟨t1,t2,_⟩:=p6 I1 d
 refine⟨t1,t2,?_⟩
 rw [m.trees]
 refine Calls.callWith_builtin rfl (Calls.evalArgs_plain (Calls.spliced_cons (thn (he Aa s1 σ H1 _ I1 q1) fun iv s2 ⟨y,H2,I2,ry,q2⟩ =>
  Calls.spliced_cons (thn (hf Aa s2 σ H2 _ I2 q2) fun fv s3 ⟨z,H3,I3,rz,kvs,k,ea,ey,q3,q4⟩=>Calls.spliced_nil ?_))))
 subst ey
 cases l:valV kvs k with
 | some v=>exact Bb9 I3 ea ry l (.inr ⟨fv,rfl⟩) fun w' s4 I4 rw'=>⟨v,_,I4,rw',q3 v l⟩
 | none=>exact Bb8 I3 ea ry l fun s4 I4=>⟨z,H3,I4,rz,q4 l⟩
end
section
variable {X:Cx}{Aa:List (Addr × Obj)}{σ:St}{H:Hp}{s:Shared}{a:Addr}{kvs:List (Key × V)}{A:Around}{E:Value->Shared->Prop}
theorem Au6 {Q:Value->Shared->Prop} (I:Inv X Aa σ H s) (e:Rd H a (.dK kvs)) (h:∀ p s',H p=none->Inv X Aa σ (upd H p (.dK kvs)) s'->Q (.ref p) s'):wpAny (model X.prog X.w) A (call (.type "dict") [.ref a]) Q E s:=by
 obtain⟨z,hd,vs,rel,dd⟩:=Qf I.hok e
 refine kt_call_dict hd dd (by rw [←rel.length];exact z) fun h' dd' hs=>?_
 refine h _ _ (I.hok.fresh (Nat.le_refl _)) (I.laid (a:=s.heap.objs.size) (o:=.dK kvs) (t':=s.toks) (fun b q hq=>?_) (Nat.le_refl _) (Ss z (beq_eq_false_iff_ne.mpr (Ne.symm (Nat.ne_of_lt I.big))) rel dd'))
 exact (hs.2 b (Nat.ne_of_lt (Heap.lt_size hq))).trans (Heap.get?_push_of_some _ hq)
end
section
variable {X:Cx}{Aa:List (Addr × Obj)}{σ:St}{H:Hp}{s:Shared}{a:Addr}{y:V}{u:Value}{A:Around}{E:Value->Shared->Prop}
end
end L2
namespace L2
open PySem PySem.Spec PyProof.Rows
section
variable {X:Cx}
theorem Jh:Du X (.builtin "len") (fun xs H Q=>∃ a kvs,xs=[V.ref a]/\H a=some (.dK kvs)/\Q (.int kvs.length) H):=by
 intro Aa s σ H xs us Q I r h
 obtain⟨a,kvs,rfl,ha,q⟩:=h
 obtain⟨u,rfl,ru⟩:=Mc r
 cases ru
 exact Bf5 I (.inl ha) fun t s' I'=>⟨.int kvs.length,H,I',⟨t,rfl⟩,q⟩
end
end L2
namespace L2
open PySem PySem.Spec PyProof.Rows
def clOf (cells:List (Str × Addr)):List (Str × NameKind)->List (Str × Addr)->List (Str × Addr)
 | [],acc=>acc
 | (n,k)::r,acc=>clOf cells r (if (k==NameKind.free)=true then (n,(cells.lookup n).getD 0)::acc else acc)
theorem Sv {sc:Scope}{env:Env} (h:∀ n,(n,NameKind.free)∈sc.names->∃ c,env.cells.lookup n=some c):closureFor sc env=pure (clOf env.cells sc.names []):=by
 have all:∀ (l:List (Str × NameKind)) (acc:List (Str × Addr)),(∀ n,(n,NameKind.free)∈l->∃ c,env.cells.lookup n=some c) →
  (forIn l acc fun (x:Str × NameKind) (cs:List (Str × Addr))=>match x with
    | (name,kind)=>if (kind==NameKind.free)=true then (do let c ←cellOf env name;pure (ForInStep.yield ((name,c)::cs))) else pure (ForInStep.yield cs))=(pure (clOf env.cells l acc):Sem _):=by
  intro l
  induction l with
  | nil=>intro acc _;rfl
  | cons x r ih =>
    intro acc hl
    obtain⟨n,k⟩:=x
    rw [List.forIn_cons]
    by_cases hk:(k==NameKind.free)=true
    . have hk':k=NameKind.free:=by simpa using hk
      subst hk'
      obtain⟨c,hc⟩:=hl n List.mem_cons_self
      have e1:cellOf env n=pure c:=by unfold cellOf;rw [hc]
      simp only [beq_self_eq_true,if_true,e1,pure_bind]
      rw [ih _ fun m hm=>hl m (List.mem_cons_of_mem _ hm)]
      show _=(pure (clOf env.cells r (if (NameKind.free==NameKind.free)=true then (n,(env.cells.lookup n).getD 0)::acc else acc)):Sem _)
      rw [if_pos (by simp),hc]
      rfl
    . have hk2:(k==NameKind.free)=false:=by simpa using hk
      simp only [hk2,Bool.false_eq_true,if_false,pure_bind]
      rw [ih _ fun m hm=>hl m (List.mem_cons_of_mem _ hm)]
      show _=(pure (clOf env.cells r (if (k==NameKind.free)=true then (n,(env.cells.lookup n).getD 0)::acc else acc)):Sem _)
      rw [if_neg hk]
 have:=all sc.names [] h
 unfold closureFor
 dsimp only
 rw [this,pure_bind]
theorem Dp {cells:List (Str × Addr)}{x:Str}{c:Addr}:∀{l:List (Str × NameKind)}{acc:List (Str × Addr)},(∀ n,(n,NameKind.free)∈l->∃ c,cells.lookup n=some c) →
 (acc.lookup x=some c->cells.lookup x=some c)->(clOf cells l acc).lookup x=some c->cells.lookup x=some c
 | [],_,_,ha,h=>ha h
 | (n,k)::r,acc,hl,ha,h=>by
   refine Dp (l:=r) (fun m hm=>hl m (List.mem_cons_of_mem _ hm)) ?_ h
   by_cases hk:(k==NameKind.free)=true
   . rw [if_pos hk]
     have hk':k=NameKind.free:=by simpa using hk
     subst hk'
     obtain⟨d,hd⟩:=hl n List.mem_cons_self
     intro e
     rw [List.lookup_cons] at e
     cases hx:x==n with
     | true =>
       rw [hx] at e
       have hxn:x=n:=by simpa using hx
       subst hxn
       rw [hd] at e ⊢
       exact e
     | false=>rw [hx] at e;exact ha e
   . rw [if_neg hk];exact ha
theorem Vp {cells:List (Str × Addr)}{x:Str}:∀{l:List (Str × NameKind)}{acc:List (Str × Addr)},((x,NameKind.free)∈l\/∃ c,acc.lookup x=some c)->∃ c,(clOf cells l acc).lookup x=some c
 | [],_,h=>by
   rcases h with h | h
   . exact nomatch h
   . exact h
 | (n,k)::r,acc,h=>by
   refine Vp (l:=r) ?_
   by_cases hk:(k==NameKind.free)=true
   . rw [if_pos hk]
     by_cases hx:(x==n)=true
     . exact .inr ⟨(cells.lookup n).getD 0,by rw [List.lookup_cons,hx]⟩
     . have hx2:(x==n)=false:=by simpa using hx
       rcases h with h|⟨c,h⟩
       . rcases List.mem_cons.mp h with e | e
         . have e1:x=n:=congrArg Prod.fst e
           exact absurd (by simp [e1]) hx
         . exact .inl e
       . exact .inr ⟨c,by rw [List.lookup_cons,hx2];exact h⟩
   . rw [if_neg hk]
     rcases h with h | h
     . rcases List.mem_cons.mp h with e | e
       . have e2:NameKind.free=k:=congrArg Prod.snd e
         exact absurd (by simp [←e2]) hk
       . exact .inl e
     . exact .inr h
def D5 (X:Cx) (sc:Scope) (N':List Str) (C:Addr) (s₀:Shared) (H₀:Hp) (fp:List Addr):Cx where
 prog:=X.prog
 w:=X.w
 K:=X.K
 mg:=X.mg
 base:=X.base
 A:=X.A
 N:=N'
 s₀:=s₀
 H₀:=H₀
 env:=compEnvC sc (clOf X.env.cells sc.names []) C X.env
 outer:=X.stack
 stack:=X.stack
 ex:=fp
 fn:=fun _=>false
 calm:=X.calm
 pn:=[]
 xe:=fun _ _=>False
def capS (cap:List (Option Nat)) (σ:St):St:=cap.map fun o=>o.bind fun j=>(σ[j]?).join
structure Ya (X:Cx) (sc:Scope) (N':List Str) (cap:List (Option Nat)):Prop where
 kind:sc.kind=.function
 len:cap.length=N'.length
 nocell:∀ x∈sc.names,x.2≠NameKind.cell
 locals:∀ x∈sc.names,x.2=NameKind.local->sc.names.lookup x.1=some NameKind.local
 free:∀ n,(n,NameKind.free)∈sc.names->X.env.kindOf n=some .cell\/X.env.kindOf n=some .free
 slots:∀ (i j:Nat) (x:Str),N'[i]?=some x->cap[i]?=some (some j)->X.N[j]?=some x/\((relabel sc X.env).names.lookup x=some .cell\/(relabel sc X.env).names.lookup x=some .free)/\Vis X.env.scope x
section
variable {X:Cx}{sc:Scope}{N':List Str}{cap:List (Option Nat)}{Aa:List (Addr × Obj)}{σ:St}{H:Hp}{s:Shared}{C:Addr}{fp:List Addr}
theorem Ya.cells (c:Ya X sc N' cap) (ok:X.Ok):∀ n,(n,NameKind.free)∈sc.names->∃ c,X.env.cells.lookup n=some c:=fun n hn=>ok.has n (c.free n hn)
theorem Gp {env:Env}{x:Str}{k:NameKind} (hnc:∀ x∈sc.names,x.2≠NameKind.cell) (h:(relabel sc env).names.lookup x=some k) (hk:k=.cell\/k=.free):(x,NameKind.free)∈sc.names:=by
 have all:∀ (l:List (Str × NameKind)),(∀ x∈l,x.2≠NameKind.cell)->(l.map fun (n,k)=>if (k==NameKind.free&&env.scope.kind==.function&&env.kindOf n==some .cell) then (n,NameKind.cell) else (n,k)).lookup x=some k->(x,NameKind.free)∈l:=by
  intro l
  induction l with
  | nil=>intro _ h;exact nomatch h
  | cons p r ih =>
    intro hn h
    obtain⟨n,q⟩:=p
    rw [List.map_cons,List.lookup_cons] at h
    by_cases hc:(q==NameKind.free&&env.scope.kind==.function&&env.kindOf n==some .cell)=true
    . have hq:q=NameKind.free:=by
       have:=hc
       simp only [Bool.and_eq_true] at this
       simpa using this.1.1
      simp only [hc,if_true] at h
      cases hx:x==n with
      | true =>
        have e:x=n:=by simpa using hx
        rw [e,hq]
        exact List.mem_cons_self
      | false =>
        rw [hx] at h
        exact List.mem_cons_of_mem _ (ih (fun y hy=>hn y (List.mem_cons_of_mem _ hy)) h)
    . simp only [hc] at h
      cases hx:x==n with
      | true =>
        have e:x=n:=by simpa using hx
        simp only [Bool.false_eq_true,if_false,hx] at h
        have e2:q=k:=by simpa using h
        rcases hk with z | z
        . exact absurd (e2.trans z) (hn (n,q) List.mem_cons_self)
        . rw [e,←z,←e2]
          exact List.mem_cons_self
      | false =>
        simp only [Bool.false_eq_true,if_false,hx] at h
        exact List.mem_cons_of_mem _ (ih (fun y hy=>hn y (List.mem_cons_of_mem _ hy)) h)
 exact all sc.names hnc h
theorem A42 (c:Ya X sc N' cap) (I:Inv X Aa σ H s) (hC:s.heap.objs.size<=C) (hf:∀ b∈fp,FpOk X Aa H b) (hb:∀ b∈fp,b<s.heap.objs.size):(D5 X sc N' C s H fp).Ok where
 mod:=I.ok.mod
 kind:=c.kind
 glob:=I.ok.glob
 blt:=I.ok.blt
 above:=hC
 inj:=fun x y a hx hy=>I.ok.inj x y a (Dp (c.cells I.ok) (fun z=>by simp at z) hx) (Dp (c.cells I.ok) (fun z=>by simp at z) hy)
 has:=fun x hx=>by
  refine Vp (.inl ?_)
  rcases hx with hx | hx
  . exact Gp c.nocell hx (.inl rfl)
  . exact Gp c.nocell hx (.inr rfl)
 cab:=fun _ _ h=>nomatch h
 hd:=I.ok.hd
 frames:=I.ok.frames
 stk:=.inl rfl
 exf:=fun b hb'=>⟨Nat.ne_of_lt (Nat.lt_of_lt_of_le (hb b hb') hC),fun x a e=>(hf b hb').2.2.2.2.1 x a (Dp (c.cells I.ok) (fun z=>by simp at z) e)⟩
 bs:=I.bs
 bsz:=Nat.le_trans I.ok.bsz I.sz
 noex:=fun b o e hb'=>by
  rcases (hf b hb').2.2.2.1 with z | z
  . exact I.ok.noex b o e z
  . exact absurd (Nat.lt_of_lt_of_le (Heap.lt_size e) (Nat.le_trans I.ok.bsz z)) (Nat.lt_irrefl _)
 exfs:=fun b hb' z=>by
  obtain⟨_,f1,f2,_⟩:=hf b hb'
  rcases List.mem_cons.mp (I.stkSub b z) with e | e
  . exact f1 e
  . exact f2 e
 funs:=I.stack
 frf:=I.stkFree
theorem Av2 (c:Ya X sc N' cap) (I:Inv X Aa σ H s) {D:Addr}{h1:Heap}{t:Nat} (hC:C=s.heap.objs.size+1) (hD:D=s.heap.objs.size) (hf:∀ b∈fp,FpOk X Aa H b) (hb:∀ b∈fp,b<s.heap.objs.size)
 (hn:h1.Ns C fun _=>none) (hl:h1.get? D=some { cls:=.type "list",data:=.seq #[] 0 }) (k:∀ b o,s.heap.get? b=some o->h1.get? b=some o) :
 Inv (D5 X sc N' C s H fp) [] (capS cap σ) (upd H D (.lst [])) { s with heap:=h1,toks:=t }:=by
 have hCs:s.heap.objs.size<=C:=by rw [hC];exact Nat.le_succ _
 have hCD:C≠D:=by rw [hC,hD];exact Nat.succ_ne_self _
 have ok:=A42 (C:=C) (fp:=fp) c I hCs hf hb
 have hDn:H D=none:=by rw [hD];exact I.fresh
 have ltc:∀ x a,(clOf X.env.cells sc.names []).lookup x=some a->X.env.cells.lookup x=some a:=fun x a e=>Dp (c.cells I.ok) (fun z=>by simp at z) e
 have cel:∀ a v,s.heap.IsCell a v->h1.IsCell a v:=fun a v ⟨o,ho,hd⟩=>⟨o,k a o ho,hd⟩
 have ltD:∀ a v,s.heap.IsCell a v->a≠D:=fun a v ⟨o,ho,hd⟩=>by rw [hD];exact Nat.ne_of_lt (Heap.lt_size ho)
 refine⟨ok,rfl,I.bare,Un.laid k (by rw [hD];exact Nat.le_refl _) hDn,⟨_,hn,fun i x v e1 e2 e3=>?_⟩,fun x a e=>?_,?_,fun x a e=>?_,fun p hp=>absurd hp (by simp [D5]),?_,?_⟩
 . have e2':cap[i]?.map (fun o=>o.bind fun j=>(σ[j]?).join)=some (some v):=by
    have:=e2
    unfold capS at this
    rw [List.getElem?_map] at this
    exact this
   cases hc:cap[i]? with
   | none=>rw [hc] at e2';cases e2'
   | some o =>
     rw [hc] at e2'
     cases o with
     | none=>cases e2'
     | some j =>
       have e4:(σ[j]?).join=some v:=by simpa using e2'
       obtain⟨q1,q2',q3⟩:=c.slots i j x e1 hc
       have q2:(x,NameKind.free)∈sc.names:=q2'.elim (fun z=>Gp c.nocell z (.inl rfl)) fun z=>Gp c.nocell z (.inr rfl)
       obtain⟨m,hm,hl'⟩:=I.loc
       have e5:σ[j]?=some (some v):=by
        cases z:σ[j]? with
        | none=>rw [z] at e4;cases e4
        | some y=>rw [z] at e4;cases y with
          | none=>cases e4
          | some y'=>cases e4;rfl
       obtain⟨u,r,l⟩:=hl' j x v q1 e5 q3
       refine⟨u,r,?_⟩
       obtain⟨a,ha⟩:=Vp (cells:=X.env.cells) (l:=sc.names) (acc:=[]) (x:=x) (.inl q2)
       have kd:X.env.kindOf x=some .cell\/X.env.kindOf x=some .free:=c.free x q2
       rcases l with ⟨hk,_⟩|⟨hk,a',ha',hcell⟩
       . rcases kd with z | z<;>rw [z] at hk<;>cases hk
       . have e6:a'=a:=by
          have:=ltc x a ha
          rw [ha'] at this
          exact Option.some.inj this
         refine .inr ⟨q2',a,ha,?_⟩
         rw [←e6]
         exact cel _ _ hcell
 . obtain⟨v,z⟩:=I.cell x a (ltc x a e)
   exact ⟨v,cel a v z⟩
 . show upd H D (.lst []) C=none
   rw [Ae hCD]
   exact I.hok.fresh hCs
 . show upd H D (.lst []) a=none
   obtain⟨v,z⟩:=I.cell x a (ltc x a e)
   rw [Ae (ltD a v z)]
   exact I.freeC x a (ltc x a e)
 . exact I.hok.laid k (by rw [hD];exact Nat.le_refl _) ⟨Nat.zero_le _,[],0,.nil,hl⟩
 . show (capS cap σ).length=N'.length
   unfold capS
   rw [List.length_map,c.len]
end
end L2
namespace L2
open PySem PySem.Spec PyProof.Rows
def capB (osc:Scope) (N:List Str) (sc:Scope) (N':List Str) (cap:List (Option Nat)):Bool :=
 decide (sc.kind=.function)&&decide (cap.length=N'.length)&&sc.names.all (fun x=>decide (x.2≠NameKind.cell))&&sc.names.all (fun x=>decide (x.2=NameKind.local->sc.names.lookup x.1=some NameKind.local)) &&
 sc.names.all (fun x=>decide (x.2=NameKind.free->(osc.names.lookup x.1=some .cell\/osc.names.lookup x.1=some .free))) &&
 (N'.zip cap).all (fun p=>match p.2 with
   | none=>true
   | some j=>decide (N[j]?=some p.1)&&decide (((sc.names.map fun (n,k)=>if (k==.free&&osc.kind==.function&&osc.names.lookup n==some .cell) then (n,NameKind.cell) else (n,k)).lookup p.1=some .cell) ∨
      ((sc.names.map fun (n,k)=>if (k==.free&&osc.kind==.function&&osc.names.lookup n==some .cell) then (n,NameKind.cell) else (n,k)).lookup p.1=some .free)) &&
     decide (osc.names.lookup p.1=some .local\/osc.names.lookup p.1=some .cell\/osc.names.lookup p.1=some .free))
theorem Ao5 {X:Cx}{sc:Scope}{N':List Str}{cap:List (Option Nat)} (h:capB X.env.scope X.N sc N' cap=true):Ya X sc N' cap:=by
 unfold capB at h
 rw [Bool.and_eq_true,Bool.and_eq_true,Bool.and_eq_true,Bool.and_eq_true,Bool.and_eq_true,List.all_eq_true,List.all_eq_true,List.all_eq_true,List.all_eq_true] at h
 obtain⟨⟨⟨⟨⟨h1,h2⟩,h3⟩,h4⟩,h5⟩,h6⟩:=h
 refine⟨of_decide_eq_true h1,of_decide_eq_true h2,fun x hx=>of_decide_eq_true (h3 x hx),fun x hx=>of_decide_eq_true (h4 x hx),fun n hn=>of_decide_eq_true (h5 _ hn) rfl,fun i j x e1 e2=>?_⟩
 have hm:(x,some j)∈N'.zip cap:=by
  have e:(N'.zip cap)[i]?=some (x,some j):=by
   rw [List.getElem?_zip_eq_some]
   exact ⟨e1,e2⟩
  exact List.mem_of_getElem? e
 have h7:=h6 _ hm
 dsimp only at h7
 rw [Bool.and_eq_true,Bool.and_eq_true] at h7
 obtain⟨⟨h8,h9⟩,h10⟩:=h7
 exact ⟨of_decide_eq_true h8,of_decide_eq_true (p:=(relabel sc X.env).names.lookup x=some .cell\/(relabel sc X.env).names.lookup x=some .free) h9,of_decide_eq_true (p:=X.env.scope.names.lookup x=some .local\/X.env.scope.names.lookup x=some .cell\/X.env.scope.names.lookup x=some .free) h10⟩
def PTs (X:Cx) (ifs:List Expr) (t:TT):Prop :=
 ∀ (Aa:List (Addr × Obj)) (s:Shared) (σ:St) (H:Hp) (Q:Bool->Hp->Prop),Inv X Aa σ H s->t σ H Q →
   wpAny (model X.prog X.w) X.A (forIn ifs true fun c r=>if r=true then do let ok ←isTrue c X.env (eval c X.env);pure (ForInStep.yield ok) else pure (ForInStep.yield r)) (TP X Aa σ Q) X.xe s
def tYes:TT:=fun _ H Q=>Q true H
theorem Cs {X:Cx}:PTs X [] tYes:=fun _ _ _ H _ I h=>wpAny_tests_nil ⟨H,I,h⟩
theorem Yx {X:Cx}{c:Expr}{t:TT} (h:PT X c t):PTs X [c] t:=fun Aa s σ H Q I hw=>wpAny_tests_one (h Aa s σ H Q I hw)
def RunC (J:It) (g:TG) (tc:TT) (te:TE) (D:Addr) (Q:Hp->Prop) (τ:St) (H:Hp):Prop :=
 ∃ W:Nat->Nat->List V->St->Hp->Prop,(∃ m,W 0 m [] τ H)/\∀ i m ys τ H,W i m ys τ H →
   (J.stop i H/\Q H) ∨
   (J.go i H/\∃ N:List V->St->Hp->Prop,(∀ ys' τ' H',N ys' τ' H'->∃ m',m'<m/\W (i+1) m' ys' τ' H') ∧
     ∀ x H',J.yld i H x H'->g x τ H' fun τ2 H2=>tc τ2 H2 fun b H3=>if b=true then te τ2 H3 fun y H4=>H4 D=some (.lst ys)/\ys.length<sizeLine/\N (ys++[y]) τ2 (upd H4 D (.lst (ys++[y]))) else N ys τ2 H3)
section
variable {X:Cx}{sc:Scope}{N':List Str}{cap:List (Option Nat)}{tg elt iter:Expr}{ifs:List Expr}{pos:Pos}{g:TG}{tc:TT}{te:TE}
theorem An8 {Y:Cx}{J:It}{fp:List Addr}{it D:Addr}{tn:Nat->Heap->Prop}{R:Result->Shared->Prop}{Q:Hp->Prop}{τ:St}{H:Hp}{s:Shared}
 (hx:Y.xe=fun _ _=>False) (hc:Y.calm=true) (hg:PG Y tg g) (ht:PTs Y ifs tc) (he:PE Y elt te) (T:Turn Y.prog Y.w Y.K tg J fp it tn) (st:tn 0 s.heap) (hf:∀ b∈fp,FpOk Y [] H b) (I:Inv Y [] τ H s)
 (h:RunC J g tc te D Q τ H) (hR:∀ τ' H' s',Inv Y [] τ' H' s'->Q H'->R (.ok .next) s') :
 codeAny (model Y.prog Y.w) Y.A (.compLoop (.ListComp elt [⟨tg,iter,ifs,0⟩] sc pos) 0 (.ref it) (.ref D) Y.env) R s:=by
 obtain⟨W,⟨m0,w0⟩,turn⟩:=h
 have stat:∀{H':Hp},(∀ b∈fp,H' b=none)->∀ b∈fp,FpOk Y [] H' b:=fun hn b hb=>⟨hn b hb,(hf b hb).2⟩
 have no:∀{P:Prop}{e:Value}{s':Shared},Y.xe e s'->P:=fun z=>by rw [hx] at z;exact z.elim
 refine codeAny_loop rfl (fun n s'=>∃ i ys τ' H',Inv Y [] τ' H' s'/\tn i s'.heap/\(∀ b∈fp,H' b=none)/\W i n ys τ' H') ?_ m0 ⟨0,[],τ,H,I,st,fun b hb=>(hf b hb).1,w0⟩
 rintro n s3 ⟨i,ys,τ3,H3,I3,st3,fr3,w3⟩
 show wpAny _ Y.A ((compTurn (.ListComp elt [⟨tg,iter,ifs,0⟩] sc pos) 0 (.ref it) (.ref D) Y.env).onRaise (fun x=>do noteFrame x Y.env;theTreesLotGoes x)) _ _ s3
 refine wpAny_noted ?_
 rw [compTurn_list]
 refine wpAny_bind (wpAny_standAt (wpAny_bind ?_))
 rcases turn i n ys τ3 H3 w3 with ⟨stop,qn⟩|⟨go,N,hN,step⟩
 . refine wpAny_mono (T.done Y rfl rfl rfl hc i [] s3 τ3 H3 (fun _ _=>False) I3 (stat fr3) st3 stop) (fun r s4 ⟨hr,I4⟩=>?_) fun _ _ z=>z.elim
   subst hr
   exact wpAny_pure (hR _ _ _ I4 qn)
 . refine wpAny_mono (T.item Y rfl rfl rfl hc i [] s3 τ3 H3 (fun _ _=>False) I3 (stat fr3) st3 go) (fun r s4 ⟨u,hr,h4⟩=>?_) fun _ _ z=>z.elim
   subst hr
   refine wpAny_bind (wpAny_mono h4 (fun _ s5 ⟨x,H5,I5,r5,y5,st5,fr5⟩=>?_) fun _ _ z=>z.elim)
   have I5':=I5.pinned (stat fr5) (T.obj _ _ st5)
   have again:∀{τ7:St}{H7:Hp}{ys7:List V}{s7:Shared},Inv Y ([]++Wh fp s5.heap) τ7 H7 s7->N ys7 τ7 H7->∃ m,m<n/\∃ i ys τ' H',Inv Y [] τ' H' s7/\tn i s7.heap/\(∀ b∈fp,H' b=none)/\W i m ys τ' H':=fun {τ7 H7 ys7 s7} I7 n7=>by
    obtain⟨m',hm,w7⟩:=hN ys7 τ7 H7 n7
    refine⟨m',hm,i+1,ys7,τ7,H7,I7.unpinned,T.keep _ _ _ st5 fun b hb o e=>(I7.pin (b,o) (List.mem_append_right _ (List.mem_append_right _ (Jn hb e)))).1,fun b hb=>?_,w7⟩
    obtain⟨o,e,d⟩:=T.obj _ _ st5 b hb
    exact (I7.pin (b,o) (List.mem_append_right _ (List.mem_append_right _ (Jn hb e)))).2.1
   refine wpAny_bind (wpAny_mono (hg _ s5 τ3 H5 x u _ I5' r5 (step x H5 y5)) (fun _ s6 ⟨τ6,H6,I6,q6⟩=>?_) fun _ _ z=>no z)
   refine wpAny_bind (wpAny_mono (ht _ s6 τ6 H6 _ I6 q6) (fun ok s7 ⟨H7,I7,q7⟩=>?_) fun _ _ z=>no z)
   cases ok with
   | false =>
     have q8:N ys τ6 H7:=by simpa using q7
     exact wpAny_pure ⟨rfl,again I7 q8⟩
   | true =>
     have q8:te τ6 H7 fun y H4=>H4 D=some (.lst ys)/\ys.length<sizeLine/\N (ys++[y]) τ6 (upd H4 D (.lst (ys++[y]))):=by simpa using q7
     refine wpAny_bind (wpAny_bind (wpAny_mono (he _ s7 τ6 H7 _ I7 q8) (fun y s8 ⟨v8,H8,I8,r8,hD,hl,n8⟩=>?_) fun _ _ z=>no z))
     refine wpAny_bind (wpAny_mono (C7 _ s8 τ6 H8 (.ref D) [v8] (.ref D) [y] (fun _ H9=>N (ys++[v8]) τ6 H9) I8 rfl (.cons r8 .nil) ⟨D,ys,v8,rfl,rfl,hD,hl,n8⟩) (fun _ s9 ⟨_,H9,I9,_,n9⟩=>?_) fun _ _ z=>no z)
     exact wpAny_pure (wpAny_pure ⟨rfl,again I9 n9⟩)
theorem Su {Aa:List (Addr × Obj)}{σ:St}{H:Hp}{s:Shared}{J:It}{fp:List Addr}{it:Addr}{tn:Nat->Heap->Prop}{RR:Value->Addr->Result->Shared->Prop}{Q:Addr->Hp->Prop}{E:Value->Shared->Prop}
 (c:Ya X sc N' cap) (hc:X.calm=true) (hg:∀ C s₀ H₀ fp,PG (D5 X sc N' C s₀ H₀ fp) tg g) (ht:∀ C s₀ H₀ fp,PTs (D5 X sc N' C s₀ H₀ fp) ifs tc) (he:∀ C s₀ H₀ fp,PE (D5 X sc N' C s₀ H₀ fp) elt te)
 (I:Inv X Aa σ H s) (T:Turn X.prog X.w X.K tg J fp it tn) (st:tn 0 s.heap) (hf:∀ b∈fp,FpOk X Aa H b)
 (h:∀ D,H D=none->RunC J g tc te D (Q D) (capS cap σ) (upd H D (.lst [])))
 (hR:∀ D C s' H' m',H D=none->s.heap.objs.size<=C->s'.os=s.os->AllBare s'.gens->Un (frs X.stack) fp H H' s.heap s'.heap->HOk X.prog X.w H' s'.heap->s'.heap.Ns C m'->H' C=none->C ∉ fp->Q D H'->RR (.ref D) C (.ok .next) s') :
 wpAny (model X.prog X.w) X.A (newList []) (fun acc s₃=>wpAny (model X.prog X.w) X.A (newFunctionEnv sc X.env.globals (clOf X.env.cells sc.names []) [] X.env.qual none .none (some X.env)) (fun cenv s₄ =>
  codeAny (model X.prog X.w) X.A (.compStart (.ListComp elt [⟨tg,iter,ifs,0⟩] sc pos) 0 (.ref it) acc { cenv with scope:=relabel sc X.env }) (RR acc cenv.locals) s₄) E s₃) E s:=by
 have hb:∀ b∈fp,b<s.heap.objs.size:=fun b hb=>by
  obtain⟨o,e,_⟩:=T.obj _ _ st b hb
  exact Heap.lt_size e
 refine wpAny_newObj_type (wpAny_newFunctionEnv c.nocell (by intro y hy;simp at hy) (fun h₁ hns₁ hsb₁=>?_) c.kind)
 dsimp only at hns₁ hsb₁ ⊢
 generalize hH2:s.heap.push { cls:=.type "list",dict:=none,data:=.seq ([]:List Value).toArray }=H2 at hns₁ hsb₁ ⊢
 have hC:H2.objs.size=s.heap.objs.size+1:=by rw [←hH2,Heap.size_push]
 have hCl:s.heap.objs.size<=H2.objs.size:=by rw [hC];exact Nat.le_succ _
 have hCn:s.heap.objs.size≠H2.objs.size:=by rw [hC];exact (Nat.succ_ne_self _).symm
 have old:∀ b o,s.heap.get? b=some o->h₁.get? b=some o:=fun b o e=>by
  have l1:=Heap.lt_size e
  exact hsb₁.extBut b o (Nat.ne_of_lt (Nat.lt_of_lt_of_le l1 hCl)) (Heap.get?_push_of_some _ (hH2▸Heap.get?_push_of_some _ e))
 have hl:h₁.get? s.heap.objs.size=some { cls:=.type "list",data:=.seq #[] 0 }:=hsb₁.extBut _ _ hCn (Heap.get?_push_of_some _ (hH2▸Heap.get?_push_size _ rfl))
 have hns₂:h₁.Ns H2.objs.size fun _=>none:=by simpa using hns₁
 have I4:Inv (D5 X sc N' H2.objs.size s H fp) [] (capS cap σ) (upd H s.heap.objs.size (.lst [])) { s with heap:=h₁,toks:=s.toks+([]:List (Str × Value)).length }:=Av2 c I hC rfl hf hb hns₂ hl old
 have hfr:H s.heap.objs.size=none:=I.fresh
 have f4:∀ b∈fp,FpOk (D5 X sc N' H2.objs.size s H fp) [] (upd H s.heap.objs.size (.lst [])) b:=fun b hb'=>by
  obtain⟨f0,f1,f2,f3,f4,f5⟩:=hf b hb'
  have lb:=hb b hb'
  refine⟨by rw [Ae (Nat.ne_of_lt lb)];exact f0,(Nat.ne_of_lt (Nat.lt_of_lt_of_le lb hCl):b≠H2.objs.size),fun z=>?_,.inl hb',fun x a e=>f4 x a (Dp (c.cells I.ok) (fun z=>by simp at z) e),fun p hp=>absurd hp (by simp [D5])⟩
  rcases List.mem_cons.mp (I.stkSub b z) with e | e
  . exact f1 e
  . exact f2 e
 have st4:tn 0 h₁:=T.keep _ _ _ st fun b _ o e=>old b o e
 have loop:∀ s₅:Shared,s₅={ s with heap:=h₁,toks:=s.toks+([]:List (Str × Value)).length } →
  codeAny (model X.prog X.w) X.A (.compLoop (.ListComp elt [⟨tg,iter,ifs,0⟩] sc pos) 0 (.ref it) (.ref s.heap.objs.size) (D5 X sc N' H2.objs.size s H fp).env) (RR (.ref s.heap.objs.size) H2.objs.size) s₅:=by
  rintro s₅ rfl
  refine An8 (Y:=D5 X sc N' H2.objs.size s H fp) (J:=J) (fp:=fp) (tn:=tn) (Q:=Q s.heap.objs.size) rfl hc (hg _ _ _ _) (ht _ _ _ _) (he _ _ _ _) T st4 f4 I4 (h _ hfr) fun τ' H' s' I' q'=>?_
  obtain⟨m',hn',_⟩:=I'.loc
  exact hR _ _ s' H' m' hfr hCl I'.os I'.bare I'.base I'.hok hn' I'.free (fun z=>absurd (Nat.lt_of_lt_of_le (hb _ z) hCl) (Nat.lt_irrefl _)) q'
 exact codeAny_compStart_list (loop _ rfl) (T.self _ 0 _ _ _ st4 (loop _ rfl))
def A63 (wi:TI) (cap:List (Option Nat)) (g:TG) (tc:TT) (te:TE):TE:=fun σ H Q=>wi σ H fun J H1=>∀ D,H1 D=none->RunC J g tc te D (fun H'=>Q (.ref D) H') (capS cap σ) (upd H1 D (.lst []))
theorem Inv.fpCh {Aa:List (Addr × Obj)}{H:Hp}{fp:List Addr} (hf:∀ b∈fp,FpOk X Aa H b):∀ b∈fp,(b∈X.ex\/X.s₀.heap.objs.size<=b)/\b≠X.env.locals/\(∀ x c,X.env.cells.lookup x=some c->c≠b)/\∀ p∈X.pn++Aa,p.1≠b :=
 fun b hb=>let ⟨_,f1,_,f3,f4,f5⟩:=hf b hb;⟨f3,f1,f4,f5⟩
theorem Ct {wi:TI} (hc:X.calm=true) (hcap:capB X.env.scope X.N sc N' cap=true) (hi:PI X tg iter wi) (hg:∀ C s₀ H₀ fp,PG (D5 X sc N' C s₀ H₀ fp) tg g) (ht:∀ C s₀ H₀ fp,PTs (D5 X sc N' C s₀ H₀ fp) ifs tc)
 (he:∀ C s₀ H₀ fp,PE (D5 X sc N' C s₀ H₀ fp) elt te) (hs:∀ x,foldedSetIterable iter X.env x=pure x:=by intro _;rfl):PE X (.ListComp elt [⟨tg,iter,ifs,0⟩] sc pos) (A63 wi cap g tc te):=by
 intro Aa s σ H Q I h
 have c:Ya X sc N' cap:=Ao5 hcap
 rw [eval_ListComp]
 refine wpAny_comprehension_free (use:=none) rfl hs (Sv (c.cells I.ok)) c.kind c.locals (thn (hi Aa s σ H _ I h) fun v s1 h1=>thn h1 fun itv s2 h2=>?_)
 obtain⟨it,fp,tn,J,H2,e,I2,T,st2,f2,hW⟩:=h2
 subst e
 refine Su (RR:=fun acc C=>compPost (model X.prog X.w) X.A X.xe none (EP X Aa σ Q) acc C) (Q:=fun D H'=>Q (.ref D) H') c hc hg ht he I2 T st2 f2 hW ?_
 intro D C s' H' m' hD hC hos hbare hun hok hn hHC hCf q
 refine⟨m',hn,fun h' hsb=>?_⟩
 have I3:Inv X Aa σ H' s':=I2.call' hos hun hok hbare (Inv.fpCh f2)
 have f3:FpOk X Aa H' C:=I2.fpOk hC hHC
 obtain⟨_,k1,_,k3,k4,k5⟩:=f3
 have I4:Inv X Aa σ H' { s' with heap:=h' }:=I3.turned (t':=s'.toks) (fun b o hb e=>(hsb.2 b hb).trans e) hHC k1 k3 k4 k5
 exact ⟨.ref D,H',I4,rfl,q⟩
theorem Yy {wi:TI}{i:Nat}{x:Str}{px spos:Pos} (hN:X.N.Nodup) (hi':X.N[i]?=some x) (hx:Loc X.env.scope x) (hc:X.calm=true) (hcap:capB X.env.scope X.N sc N' cap=true) (hi:PI X tg iter wi)
 (hg:∀ C s₀ H₀ fp,PG (D5 X sc N' C s₀ H₀ fp) tg g) (ht:∀ C s₀ H₀ fp,PTs (D5 X sc N' C s₀ H₀ fp) ifs tc) (he:∀ C s₀ H₀ fp,PE (D5 X sc N' C s₀ H₀ fp) elt te)
 (hsw:swapsWith (.ListComp elt [⟨tg,iter,ifs,0⟩] sc pos) (some (.Name x px)) spos.line X.env=pure true:=by rfl)
 (hs:∀ x,foldedSetIterable iter X.env x=pure x:=by intro _;rfl) (hf:X.fn x=true\/X.env.scope.names.lookup x=some .local:=by first | exact .inl rfl | exact .inr rfl | assumption) :
 PS X (.Assign [.Name x px] (.ListComp elt [⟨tg,iter,ifs,0⟩] sc pos) spos) (tAsg (A63 wi cap g tc te) (Al6 i)):=by
 intro Aa s σ H D I h
 have c:Ya X sc N' cap:=Ao5 hcap
 rw [exec_Assign_Name_used _ _ _ _ hsw]
 refine wpAny_bind (wpAny_standAt (wpAny_bind ?_))
 show wpAny _ X.A (do let _ ←comprehension (.ListComp elt [⟨tg,iter,ifs,0⟩] sc pos) sc X.env _ (newList []) false (eval iter X.env) (some (assign (.Name x px) X.env))) _ _ s
 refine wpAny_bind (thn (wpAny_comprehension_free (use:=some (assign (.Name x px) X.env)) (Q:=fun _ s'=>SP X Aa D .next s') rfl hs (Sv (c.cells I.ok)) c.kind c.locals
  (thn (hi Aa s σ H _ I h) fun v s1 h1=>thn h1 fun itv s2 h2=>?_)) fun _ s' hq=>wpAny_pure (wpAny_pure hq))
 obtain⟨it,fp,tn,J,H2,e,I2,T,st2,f2,hW⟩:=h2
 subst e
 refine Su (RR:=fun acc C=>compPost (model X.prog X.w) X.A X.xe (some (assign (.Name x px) X.env)) (fun _ s'=>SP X Aa D .next s') acc C) (Q:=fun A H'=>Al6 i (.ref A) σ H' D.nx) c hc hg ht he I2 T st2 f2 hW ?_
 intro A C s' H' m' hD hC hos hbare hun hok hn hHC hCf q
 have I3:Inv X Aa σ H' s':=I2.call' hos hun hok hbare (Inv.fpCh f2)
 have f3:FpOk X Aa H' C:=I2.fpOk hC hHC
 obtain⟨_,k1,_,k3,k4,k5⟩:=f3
 show wpAny _ X.A (assign (.Name x px) X.env (.ref A)) _ _ s'
 refine wpAny_assign_Name (V4 I3 hN hi' hx (v:=.ref A) rfl (fun s'' I'' ⟨a,hsb,ha⟩=>?_) hf)
 have hCa:C≠a:=by
  rcases ha with z | z
  . rw [z];exact k1
  . exact fun z'=>k4 x a z z'.symm
 refine⟨m',hn.sameBut hsb hCa,fun h' hsb'=>?_⟩
 have I4:Inv X Aa (σ.set i (some (.ref A))) H' { s'' with heap:=h' }:=I''.turned (t':=s''.toks) (fun b o hb e=>(hsb'.2 b hb).trans e) hHC k1 k3 k4 k5
 exact ⟨_,H',I4,q⟩
end
section
variable {g:TG}{tc:TT}{te:TE}{D:Addr}{Q:Hp->Prop}{τ:St}{H:Hp}
theorem Xk {K:W.Frag}{a:Addr}{xs:List V} (Pv:Nat->List V->St->Hp->Prop) (h0:Pv 0 [] τ H) (hl:∀ i ys τ H,i<=xs.length->Pv i ys τ H->SqL K H a xs)
 (hs:∀ i x ys τ H,xs[i]?=some x->Pv i ys τ H->g x τ H fun τ2 H2=>tc τ2 H2 fun b H3=>if b=true then te τ2 H3 fun y H4=>H4 D=some (.lst ys)/\ys.length<sizeLine/\Pv (i+1) (ys++[y]) τ2 (upd H4 D (.lst (ys++[y]))) else Pv (i+1) ys τ2 H3)
 (hd:∀ ys τ H,Pv xs.length ys τ H->Q H):RunC (Itl K a) g tc te D Q τ H:=by
 refine⟨fun i m ys τ H=>m=xs.length-i/\i<=xs.length/\Pv i ys τ H,⟨xs.length,by simp,Nat.zero_le _,h0⟩,?_⟩
 rintro i m ys τ H ⟨rfl,hi,p⟩
 have q:=hl i ys τ H hi p
 by_cases hlt:i<xs.length
 . refine .inr ⟨⟨xs,xs[i],q,by simp [hlt]⟩,Pv (i+1),fun ys' τ' H' p'=>⟨xs.length-(i+1),by omega,rfl,hlt,p'⟩,fun x H' y=>?_⟩
   obtain⟨e,y⟩:=y
   subst e
   exact hs i x ys τ _ (y xs q) p
 . have e:i=xs.length:=by omega
   subst e
   exact .inl ⟨⟨xs,q,Nat.le_refl _⟩,hd ys τ H p⟩
theorem Av1 {K:W.Frag}{a:Addr}{xs:List V} (Pv:Nat->List V->St->Hp->Prop) (h0:Pv 0 [] τ H) (hl:∀ i ys τ H,i<=xs.length->Pv i ys τ H->SqT K H a xs)
 (hs:∀ i x ys τ H,xs[i]?=some x->Pv i ys τ H->g x τ H fun τ2 H2=>tc τ2 H2 fun b H3=>if b=true then te τ2 H3 fun y H4=>H4 D=some (.lst ys)/\ys.length<sizeLine/\Pv (i+1) (ys++[y]) τ2 (upd H4 D (.lst (ys++[y]))) else Pv (i+1) ys τ2 H3)
 (hd:∀ ys τ H,Pv xs.length ys τ H->Q H):RunC (Itt K a) g tc te D Q τ H:=by
 refine⟨fun i m ys τ H=>m=xs.length-i/\i<=xs.length/\Pv i ys τ H,⟨xs.length,by simp,Nat.zero_le _,h0⟩,?_⟩
 rintro i m ys τ H ⟨rfl,hi,p⟩
 have q:=hl i ys τ H hi p
 by_cases hlt:i<xs.length
 . refine .inr ⟨⟨xs,xs[i],q,by simp [hlt]⟩,Pv (i+1),fun ys' τ' H' p'=>⟨xs.length-(i+1),by omega,rfl,hlt,p'⟩,fun x H' y=>?_⟩
   obtain⟨e,y⟩:=y
   subst e
   exact hs i x ys τ _ (y xs q) p
 . have e:i=xs.length:=by omega
   subst e
   exact .inl ⟨⟨xs,q,Nat.le_refl _⟩,hd ys τ H p⟩
theorem Ad6 {lo:Int}{n:Nat} (Pv:Nat->List V->St->Hp->Prop) (h0:Pv 0 [] τ H)
 (hs:∀ i ys τ H,i<n->Pv i ys τ H->g (.int (lo+i)) τ H fun τ2 H2=>tc τ2 H2 fun b H3=>if b=true then te τ2 H3 fun y H4=>H4 D=some (.lst ys)/\ys.length<sizeLine/\Pv (i+1) (ys++[y]) τ2 (upd H4 D (.lst (ys++[y]))) else Pv (i+1) ys τ2 H3)
 (hd:∀ ys τ H,Pv n ys τ H->Q H):RunC (Itr lo n) g tc te D Q τ H:=by
 refine⟨fun i m ys τ H=>m=n-i/\i<=n/\Pv i ys τ H,⟨n,by simp,Nat.zero_le _,h0⟩,?_⟩
 rintro i m ys τ H ⟨rfl,hi,p⟩
 by_cases hlt:i<n
 . refine .inr ⟨hlt,Pv (i+1),fun ys' τ' H' p'=>⟨n-(i+1),by omega,rfl,hlt,p'⟩,fun x H' y=>?_⟩
   obtain⟨e,y⟩:=y
   subst e y
   exact hs i ys τ _ hlt p
 . have e:i=n:=by omega
   subst e
   exact .inl ⟨Nat.le_refl _,hd ys τ H p⟩
end
end L2
namespace L2
open PySem PySem.Spec PyProof.Rows PySem.SeqAt
def cK (ms:List (Int × Int)):List (Key × V):=ms.map fun p=>(Sum.inl p.1,V.int p.2)
def Bd (ms:List (Int × Int)) (k:Int):Option Int:=(ms.find? fun p=>decide (p.1=k)).map (·.2)
end L2
namespace L2
open PySem PySem.Spec PyProof.Rows
section
variable {prog:Program}{w:World}{A:Around}{E:Value->Shared->Prop}
theorem Wv:typeLookup (.type "list") "keys"=pure none:=am_miss_of_fast (by kernel_rfl)
theorem R5 {s:Shared}{a:Addr}{xs:Array Value}{k:Nat}{Q:Option Value->Shared->Prop}
 (hx:s.heap.get? a=some { cls:=.type "list",data:=.seq xs k }) (hA:A.handled=none)
 (h:∀ h' tk,(∀ b o,s.heap.get? b=some o->h'.get? b=some o)->Q none { s with heap:=h',toks:=tk }) :
 wpAny (model prog w) A (getAttr? (.ref a) "keys") Q E s:=by
 obtain⟨hp,g,d,tk,os⟩:=s
 have hT:∀ tk',(⟨hp,g,d,tk',os⟩:Shared).TypeIs (.ref a) "list":=fun _=>⟨_,hx,rfl⟩
 have f1:=sub_AttributeError
 have f3:=F.slot_list_getattribute.lookup
 have f4:=F.slot_list_getattribute.bind (.ref a)
 have f5:=am_list_getattr_none
 unfold getAttr? getAttrBy? getAttrBy
 repeat (any_goals (first | assumption | exact hT _ | ((with_reducible show wpAny _ _ (call (Value.builtin "list.__getattribute__") _ _) _ _ _);refine call_meets F.slot_list_getattribute (hT _) am_entry_list_getattribute (F.args_list_getattribute_2 _ _) (meets_getattribute_miss_list a xs k #[] "keys" _ Wv (by decide +kernel)) ⟨hx,hA,fun h' tk' e hx'=>?_⟩) | wp_step))
 obtain⟨t',u',he⟩:=hx'.there
 show wpAny _ _ (getattributeRaised _ _ _ _ _ _ _) _ _ _
 unfold getattributeRaised
 repeat (any_goals (first | assumption | wp_step))
 exact h _ _ hx'.keeps
theorem Gq:plainId "dict.update.loop"=true:=by decide +kernel
theorem Qd:entryFor table "dict.update.loop"=some Builtin.«dict.update.loop»:=entryFor_of_fast (by kernel_rfl)
variable {KT:Type} [DecidableEq KT] {knd:KeyKind prog w KT}
def But2 (d it:Addr) (h0 h:Heap):Prop:=∀ b o,b≠d->b≠it->h0.get? b=some o->h.get? b=some o
theorem Am4 (hh:A.handled=none) {d it l:Addr}{items:Array Value}{prs:List (KT × Value)} (hl:prs.length=items.size) (ndi:d≠it) (nld:l≠d) (nli:l≠it) {h0:Heap} (hL:h0.IsList l items)
 (hP:∀ (i:Nat) (x:Value),items[i]?=some x->∃ (p:KT × Value) (t:Addr) (key:Value),prs[i]?=some p/\x=.ref t/\t≠d/\t≠it/\h0.IsTuple t #[key,p.2]/\knd.is p.1 key=true) {R:Result->Shared->Prop} :
 ∀ (n i:Nat) (s:Shared) (acc:List (KT × Value)),prs.length-i=n->i<=prs.length->acc.length+n<=sizeLine->s.heap.DictOf knd d acc->s.heap.IsListIter it l i->But2 d it h0 s.heap →
   (∀ h' tk,h'.DictOf knd d (merged acc (prs.drop i))->But2 d it h0 h'->R (.ok (.ret .none)) { s with heap:=h',toks:=tk }) →
   codeAny (model prog w) A (.builtin "dict.update.loop" ⟨[.ref d,.ref it,rawInt i,.none],[]⟩) R s:=by
 intro n
 induction n with
 | zero =>
   intro i s acc hn hi hz hd hit hb k
   refine codeAny_builtin Qd ?_
   rw [Around.under_plainId Gq]
   have hLs:s.heap.IsList l items:=let ⟨o,ho,r⟩:=hL;⟨o,hb _ _ nld nli ho,r⟩
   have hx:items[i]?=none:=by simp;omega
   show wpAny _ _ (pyNext (.ref it)>>=_) _ _ s
   refine wpAny_bind (wpAny_pyNext_list_end hh hit hLs hx fun h' he=>?_)
   show wpAny _ _ (Builtin.Dict.addKeywords d []>>=_) _ _ _
   refine wpAny_bind (wpAny_pure (wpAny_pure ?_))
   have e:prs.drop i=[]:=by simp;omega
   have k':=k h' s.toks (by rw [e];exact hd.extBut he ndi) fun b o n1 n2 q=>he b o n2 (hb b o n1 n2 q)
   exact k'
 | succ n ih =>
   intro i s acc hn hi hz hd hit hb k
   refine codeAny_builtin Qd ?_
   rw [Around.under_plainId Gq]
   have hLs:s.heap.IsList l items:=let ⟨o,ho,r⟩:=hL;⟨o,hb _ _ nld nli ho,r⟩
   have hlt:i<items.size:=by omega
   obtain⟨p,t,key,hp,ex,ntd,nti,hT,hkey⟩:=hP i items[i] (by simp [hlt])
   show wpAny _ _ (pyNext (.ref it)>>=_) _ _ s
   refine wpAny_bind (wpAny_pyNext_list_item hit hLs (x:=items[i]) (by simp [hlt]) fun h1 hit1 hs1=>?_)
   rw [ex]
   have hT1:h1.IsTuple t #[key,p.2]:=let ⟨o,ho,r⟩:=hT;⟨o,(hs1.2 t nti).trans (hb _ _ ntd nti ho),r⟩
   have hd1:h1.DictOf knd d acc:=hd.sameBut hs1 ndi
   obtain⟨o,ho,hc,m,hdat⟩:=hT1
   refine wpAny_bind (wpAny_holding ?_)
   refine wpAny_bind (wpAny_tryCatch ?_)
   unfold Builtin.Dict.pairItems
   refine wpAny_bind (wpAny_typeOf (show (({ s with heap:=h1 }:Shared).TypeIs (.ref t) "tuple") from ⟨o,ho,hc⟩) ?_)
   rw [if_pos (by decide)]
   refine wpAny_bind (wpAny_seqItems ho hdat (wpAny_pure ?_))
   show wpAny _ _ (holding [key,p.2] (dictSet d key p.2)) _ _ _
   refine wpAny_holding (wpAny_dictSet_pairs (s:={ s with heap:=h1 }) hkey hd1 (fun h2 hd2 hs2=>?_) (by omega))
   refine wpAny_pure ⟨plainId_quiet Gq _,?_⟩
   have e2:prs.drop i=p::prs.drop (i+1):=by
    rw [List.drop_eq_getElem_cons (by omega)]
    congr 1
    rw [List.getElem?_eq_getElem (by omega)] at hp
    exact Option.some.inj hp
   have hl2:=stored_length_le acc p.1 p.2
   refine ih (i+1) { s with heap:=h2,toks:=s.toks+1 } (stored acc p.1 p.2) (by omega) (by omega) (by omega) hd2 ?_ (fun b o' n1 n2 q=>?_) (fun h' tk hd' hb'=>k h' tk (by rw [e2];exact hd') hb')
   . obtain⟨oi,hoi,ri⟩:=hit1
     exact ⟨oi,(hs2.2 it (Ne.symm ndi)).trans hoi,ri⟩
   . exact (hs2.2 b n1).trans ((hs1.2 b n2).trans (hb b o' n1 n2 q))
end
theorem vals_pair {x y:V}{us:List Value} (r:Vals [x,y] us):∃ a b,us=[a,b]/\RelV x a/\RelV y b:=by
 cases r with
 | cons h1 r =>
   cases r with
   | cons h2 r =>
     cases r
     exact ⟨_,_,rfl,h1,h2⟩
theorem m6 {P:Program}{w:World}{H:Hp}{h:Heap} (hok:HOk P w H h):∀ (ts:List Addr) (kvs:List (Key × V)),ts.length=kvs.length->(∀ (i:Nat) t,ts[i]?=some t->∃ kv:Key × V,kvs[i]?=some kv/\H t=some (.tup [kV kv.1,kv.2])) →
 ∃ prs:List (Key × Value),KV kvs prs/\prs.length=ts.length/\∀ (i:Nat) t,ts[i]?=some t->∃ (p:Key × Value) (key:Value),prs[i]?=some p/\h.IsTuple t #[key,p.2]/\(mixKind P w).is p.1 key=true
 | [],[],_,_=>⟨[],.nil,rfl,fun i t e=>by simp at e⟩
 | [],_::_,hl,_=>by simp at hl
 | _::_,[],hl,_=>by simp at hl
 | t::ts,kv::kvs,hl,hk=>by
   obtain⟨prs,h1,h2,h3⟩:=m6 hok ts kvs (by simpa using hl) fun i t e=>by
    obtain⟨kv',e1,e2⟩:=hk (i+1) t (by simpa using e)
    exact ⟨kv',by simpa using e1,e2⟩
   obtain⟨kv',e1,e2⟩:=hk 0 t rfl
   have e1':kv=kv':=by simpa using e1
   subst e1'
   obtain⟨_,its,rv,o,ho,hc,hdn,n,hd⟩:=hok t _ e2
   obtain⟨a,b,rfl,ra,rb⟩:=vals_pair rv
   refine⟨(kv.1,b)::prs,.cons ⟨rfl,rb⟩ h1,by simp [h2],fun i t' e=>?_⟩
   cases i with
   | zero =>
     have:t=t':=by simpa using e
     subst this
     exact ⟨(kv.1,b),a,rfl,⟨o,ho,hc,n,hd⟩,kV_is ra⟩
   | succ i =>
     obtain⟨p,key,q1,q2,q3⟩:=h3 i t' (by simpa using e)
     exact ⟨p,key,by simpa using q1,q2,q3⟩
theorem S2 {X:Cx} (hc:X.calm=true):Du X (.type "dict") (fun xs H Q=>∃ (p:Addr) (ts:List Addr) (kvs:List (Key × V)),xs=[.ref p]/\H p=some (.lst (ts.map V.ref))/\ts.length=kvs.length ∧
 (∀ (i:Nat) t,ts[i]?=some t->∃ kv:Key × V,kvs[i]?=some kv/\H t=some (.tup [kV kv.1,kv.2]))/\∀ D,H D=none->Q (.ref D) (upd H D (.dK (C8 [] kvs)))):=by
 intro Aa s σ H xs us Q I r h
 obtain⟨l,ts,kvs,rfl,hl,hlen,hk,q⟩:=h
 obtain⟨u,rfl,ru⟩:=Mc r
 cases ru
 have hh:X.A.handled=none:=I.ok.hd hc
 obtain⟨hz,its,n,rv,ho⟩:=I.hok l _ hl
 rw [List.length_map] at hz
 have hil:its.length=ts.length:=by rw [←rv.length,List.length_map]
 obtain⟨prs,hkv,hpl,hP⟩:=m6 I.hok ts kvs hlen hk
 have at_:∀ (i:Nat) (x:Value),its.toArray[i]?=some x->∃ t,ts[i]?=some t/\x=.ref t:=fun i x e=>by
  have e':its[i]?=some x:=by simpa using e
  have hlt:i<its.length:=(List.getElem?_eq_some_iff.mp e').1
  have hb:ts[i]?=some (ts[i]'(by omega)):=by simp<;>omega
  obtain⟨u,hu,ru⟩:=rv.get (i:=i) (x:=V.ref (ts[i]'(by omega))) (by rw [List.getElem?_map,hb];rfl)
  rw [e'] at hu
  cases hu
  cases ru
  exact ⟨_,hb,rfl⟩
 refine callType_codes (Q₁:=fun obj s₁=>obj=.ref s.heap.objs.size/\s₁={ s with heap:=s.heap.push { cls:=.type "dict",data:=.dict #[] } }) PySem.F.kt_called_dict (PySem.F.kt_typeCall_dict_1 _) PySem.F.entry_dict_init (kt_code_dict_new _ ⟨rfl,rfl⟩) ?_
 rintro obj s₁ ⟨rfl,rfl⟩
 have hnew:(s.heap.push { cls:=.type "dict",data:=.dict #[] }).DictOf (mixKind X.prog X.w) s.heap.objs.size []:=Heap.DictOf.new s.heap
 refine⟨hnew.typeIs,PySem.F.args_dict_init_2 _ _,?_⟩
 unfold Builtin.«dict.__init__»
 refine wpAny_bind ?_
 unfold Builtin.Dict.selfAndRest
 refine wpAny_bind (wpAny_notOrdered_dict hnew.typeIs ?_)
 show wpAny _ _ (pure (s.heap.objs.size,[Value.ref l])) _ _ _
 refine wpAny_pure ?_
 show wpAny _ _ (Builtin.Dict.updateFrom "dict.__init__" s.heap.objs.size (.ref l) [] .none) _ _ _
 unfold Builtin.Dict.updateFrom
 have ho1:(s.heap.push { cls:=.type "dict",data:=.dict #[] }).get? l=some { cls:=.type "list",data:=.seq its.toArray n }:=Heap.get?_push_of_some _ ho
 refine wpAny_bind (wpAny_typeOf (show (({ s with heap:=s.heap.push { cls:=.type "dict",data:=.dict #[] } }:Shared).TypeIs (.ref l) "list") from ⟨_,ho1,rfl⟩) ?_)
 rw [if_pos (by decide)]
 refine wpAny_bind (R5 ho1 hh fun h1 tk hk1=>?_)
 rw [if_pos (show (none:Option Value).isNone=true from rfl)]
 refine wpAny_bind (wpAny_rule ?_)
 have hl1:h1.IsList l its.toArray:=⟨_,hk1 _ _ ho1,rfl,n,rfl⟩
 refine wpAny_bind (wpAny_pyIter_list hl1 ?_)
 refine wpAny_pure ⟨plainId_quiet Gq _,?_⟩
 have lt0:l<s.heap.objs.size:=Heap.lt_size ho
 have nD:∀ b o,s.heap.get? b=some o->b≠s.heap.objs.size:=fun b o e=>Nat.ne_of_lt (Heap.lt_size e)
 have up:∀ b o,s.heap.get? b=some o->h1.get? b=some o:=fun b o e=>hk1 _ _ (Heap.get?_push_of_some _ e)
 have nI:∀ b o,s.heap.get? b=some o->b≠h1.objs.size:=fun b o e=>Nat.ne_of_lt (Heap.lt_size (up b o e))
 obtain⟨oD,esD,epD,hoD,rD⟩:=id hnew
 have hD1:h1.DictOf (mixKind X.prog X.w) s.heap.objs.size []:=⟨oD,esD,epD,hk1 _ _ hoD,rD⟩
 have ndi:s.heap.objs.size≠h1.objs.size:=Nat.ne_of_lt (Heap.lt_size (hk1 _ _ hoD))
 refine Am4 (knd:=mixKind X.prog X.w) (show X.A.in1.handled=none from hh) (prs:=prs) (items:=its.toArray) (l:=l) (d:=s.heap.objs.size) (it:=h1.objs.size) (h0:=h1.push { cls:=.type "list_iterator",data:=.fields #[.ref l,.int 0 0] }) (by simp;omega) ndi (nD _ _ ho) (nI _ _ ho)
  ⟨_,Heap.get?_push_of_some _ (hk1 _ _ ho1),rfl,n,rfl⟩ (fun i x e=>?_) prs.length 0 _ [] (by omega) (by omega) ?_ (hD1.push _) ⟨_,Heap.get?_push_size _ rfl,rfl,rfl⟩ (fun b o _ _ e=>e) (fun h' tk' hd' hb'=>?_)
 . obtain⟨t,e1,rfl⟩:=at_ i x e
   obtain⟨p,key,e2,⟨o,ho',r'⟩,e4⟩:=hP i t e1
   exact ⟨p,t,key,e2,rfl,nD _ _ ho',nI _ _ ho',⟨o,Heap.get?_push_of_some _ (up _ _ ho'),r'⟩,e4⟩
 . have e0:([]:List (Key × Value)).length=0:=rfl
   omega
 . refine⟨rfl,.ref s.heap.objs.size,upd H s.heap.objs.size (.dK (C8 [] kvs)),?_,rfl,q _ (I.hok.fresh (Nat.le_refl _))⟩
   have hzz:(C8 [] kvs).length<=sizeLine:=by
    have h1:=Gz kvs []
    rw [List.length_nil] at h1
    omega
   refine I.laid (a:=s.heap.objs.size) (o:=.dK (C8 [] kvs)) (t':=tk') (fun b o e=>hb' b o (nD _ _ e) (nI _ _ e) (Heap.get?_push_of_some _ (up _ _ e))) (Nat.le_refl _) (Ss hzz (beq_eq_false_iff_ne.mpr (Ne.symm (Nat.ne_of_lt I.big))) (hkv.merge .nil) ?_)
   simpa using hd'
theorem Io:∀ (more kvs:List (Key × V)),((kvs++more).map (·.1)).Nodup->C8 kvs more=kvs++more
 | [],kvs,_=>by simp [C8]
 | p::more,kvs,h=>by
   have hnot:(kvs.any fun kv=>decide (kv.1=p.1))=false:=by
    rw [List.any_eq_false]
    intro kv hkv hd
    have e:kv.1=p.1:=by simpa using hd
    rw [List.map_append,List.nodup_append] at h
    exact h.2.2 kv.1 (List.mem_map_of_mem hkv) p.1 (by simp) e
   have e:putK kvs p.1 p.2=kvs++[p]:=by
    unfold putK
    rw [if_neg (by rw [hnot];decide)]
   show C8 (putK kvs p.1 p.2) more=_
   rw [e,Io more (kvs++[p]) (by simpa using h)]
   simp
end L2
namespace L2
open PySem PySem.Spec PyProof.Rows PySem.SeqAt
end L2
namespace L2
open PySem PySem.Spec PyProof.Rows PySem.SeqAt
inductive D where
 | non | bl (b:Bool) | int (i:Int) | str (x:Str) | tup (ds:List D) | lst (ds:List D)
mutual
def Rep (K:W.Frag) (H:Hp):V->D->Prop
 | v,.non=>v=.non
 | v,.bl b=>v=.bl b
 | v,.int i=>v=.int i
 | v,.str x=>v=.str x
 | v,.tup ds=>∃ a vs,v=.ref a/\SqT K H a vs/\Reps K H vs ds
 | v,.lst ds=>∃ a vs,v=.ref a/\SqL K H a vs/\Reps K H vs ds
def Reps (K:W.Frag) (H:Hp):List V->List D->Prop
 | vs,[]=>vs=[]
 | vs,d::ds=>∃ v r,vs=v::r/\Rep K H v d/\Reps K H r ds
end
mutual
def imm:D->Bool
 | .lst _=>false
 | .tup ds=>imms ds
 | _=>true
def imms:List D->Bool
 | []=>true
 | d::ds=>imm d&&imms ds
end
mutual
def dep:D->Nat
 | .lst ds=>deps ds+1
 | .tup ds=>deps ds+1
 | _=>0
def deps:List D->Nat
 | []=>0
 | d::ds=>max (dep d) (deps ds)
end
mutual
def eqD:D->D->Bool
 | .non,.non=>true
 | .bl a,.bl b=>a==b
 | .bl a,.int b=>(if a then 1 else 0)==b
 | .int a,.bl b=>a==(if b then 1 else 0)
 | .int a,.int b=>a==b
 | .str a,.str b=>a==b
 | .tup a,.tup b=>eqDs a b
 | .lst a,.lst b=>eqDs a b
 | _,_=>false
def eqDs:List D->List D->Bool
 | [],[]=>true
 | a::r,b::q=>eqD a b&&eqDs r q
 | _,_=>false
end
mutual
theorem Oy (d:D):eqD d d=true:=by
 cases d with
 | non=>rfl
 | bl b=>simp [eqD]
 | int b=>simp [eqD]
 | str b=>simp [eqD]
 | tup ds=>simp only [eqD];exact eqDs_refl ds
 | lst ds=>simp only [eqD];exact eqDs_refl ds
theorem eqDs_refl (ds:List D):eqDs ds ds=true:=by
 cases ds with
 | nil=>rfl
 | cons d r=>simp only [eqDs,Bool.and_eq_true];exact ⟨Oy d,eqDs_refl r⟩
end
theorem eqDs_len:∀{a b:List D},eqDs a b=true->a.length=b.length
 | [],[],_=>rfl
 | [],_::_,h=>by simp [eqDs] at h
 | _::_,[],h=>by simp [eqDs] at h
 | x::a,y::b,h=>by
   simp only [eqDs,Bool.and_eq_true] at h
   rw [List.length_cons,List.length_cons,eqDs_len h.2]
theorem Lv:∀ (a b:List D),a.length=b.length->eqDs a b=(List.range a.length).all fun j=>match a[j]?,b[j]? with | some x,some y=>eqD x y | _,_=>true
 | [],[],_=>by simp [eqDs]
 | [],_::_,h=>by simp at h
 | _::_,[],h=>by simp at h
 | x::a,y::b,h=>by
   have h':a.length=b.length:=by simpa using h
   rw [List.length_cons,List.range_succ_eq_map,List.all_cons,List.all_map]
   simp only [eqDs,Lv a b h']
   congr 1
structure Q5 (H H':Hp):Prop where
 tup:∀ b xs,H b=some (.tup xs)->H' b=some (.tup xs)
 frz:∀ b o u,H b=some (.frz o u)->H' b=some (.frz o u)
section
variable {K:W.Frag}{H H' H1 H2:Hp}{a l p:Addr}{xs:List V}{o:HO}
theorem Same.t (x:Same H H'):Q5 H H':=⟨fun b xs h=>x b _ h,fun b o u h=>x b _ h⟩
theorem Q5.lst (h:H l=some (.lst xs)):Q5 H (upd H l o):=⟨fun b ys e=>by rw [Ae (Gs e h (by intro z;cases z))];exact e,fun b ob u e=>by rw [Ae (Gs e h (by intro z;cases z))];exact e⟩
theorem Same.new (h:H l=none):Same H (upd H l o):=fun b u e=>by rw [Ae (Al e h)];exact e
theorem Same.turn (x:Same H H1) (h:H l=none):Same H (upd H1 l o):=fun b u e=>by rw [Ae (Al e h)];exact x b u e
theorem SqT.t (x:Q5 H H') (h:SqT K H a xs):SqT K H' a xs:=by
 rcases h with (h|⟨o,h⟩) | h
 . exact .inl (.inl (x.tup _ _ h))
 . exact .inl (.inr ⟨o,x.frz _ _ _ h⟩)
 . exact .inr h
theorem Same.seqT (x:Same H H') (h:SqT K H a xs):SqT K H' a xs:=h.t x.t
mutual
theorem Rep.t (x:Q5 H H') {v:V}{d:D} (hi:imm d=true) (h:Rep K H v d):Rep K H' v d:=by
 cases d with
 | non=>exact h
 | bl b=>exact h
 | int i=>exact h
 | str x=>exact h
 | tup ds =>
   obtain⟨a,vs,e,q,r⟩:=h
   exact ⟨a,vs,e,q.t x,Reps.t x (by simpa [imm] using hi) r⟩
 | lst ds=>simp [imm] at hi
theorem Reps.t (x:Q5 H H') {vs:List V}{ds:List D} (hi:imms ds=true) (h:Reps K H vs ds):Reps K H' vs ds:=by
 cases ds with
 | nil=>exact h
 | cons d r =>
   obtain⟨v,q,e,h1,h2⟩:=h
   simp only [imms,Bool.and_eq_true] at hi
   exact ⟨v,q,e,Rep.t x hi.1 h1,Reps.t x hi.2 h2⟩
end
mutual
theorem Rep.same (x:Same H H') {v:V}{d:D} (h:Rep K H v d):Rep K H' v d:=by
 cases d with
 | non=>exact h
 | bl b=>exact h
 | int i=>exact h
 | str x=>exact h
 | tup ds =>
   obtain⟨a,vs,e,q,r⟩:=h
   exact ⟨a,vs,e,x.seqT q,Reps.same x r⟩
 | lst ds =>
   obtain⟨a,vs,e,q,r⟩:=h
   exact ⟨a,vs,e,x.seq q,Reps.same x r⟩
theorem Reps.same (x:Same H H') {vs:List V}{ds:List D} (h:Reps K H vs ds):Reps K H' vs ds:=by
 cases ds with
 | nil=>exact h
 | cons d r =>
   obtain⟨v,q,e,h1,h2⟩:=h
   exact ⟨v,q,e,Rep.same x h1,Reps.same x h2⟩
end
theorem Reps.length:∀{vs:List V}{ds:List D},Reps K H vs ds->vs.length=ds.length
 | vs,[],h=>by cases (show vs=[] from h);rfl
 | vs,d::ds,h=>by
   obtain⟨v,r,rfl,_,h2⟩:=h
   rw [List.length_cons,List.length_cons,Reps.length h2]
theorem Reps.get:∀{vs:List V}{ds:List D}{i:Nat}{d:D},Reps K H vs ds->ds[i]?=some d->∃ v,vs[i]?=some v/\Rep K H v d
 | vs,[],i,d,h,e=>by simp at e
 | vs,d0::ds,0,d,h,e=>by
   obtain⟨v,r,rfl,h1,_⟩:=h
   simp only [List.getElem?_cons_zero,Option.some.injEq] at e
   subst e
   exact ⟨v,by simp,h1⟩
 | vs,d0::ds,i+1,d,h,e=>by
   obtain⟨v,r,rfl,_,h2⟩:=h
   obtain⟨u,e1,e2⟩:=Reps.get (i:=i) h2 (by simpa using e)
   exact ⟨u,by simpa using e1,e2⟩
theorem Reps.getV:∀{vs:List V}{ds:List D}{i:Nat}{v:V},Reps K H vs ds->vs[i]?=some v->∃ d,ds[i]?=some d/\Rep K H v d:=fun {vs ds i v} h e=>by
 have hl:=h.length
 have hi:i<vs.length:=(List.getElem?_eq_some_iff.mp e).1
 obtain⟨d,hd⟩:∃ d,ds[i]?=some d:=⟨ds[i]'(by omega),by simp<;>omega⟩
 obtain⟨u,e1,e2⟩:=h.get hd
 rw [e] at e1
 cases e1
 exact ⟨d,hd,e2⟩
theorem Reps.append:∀{vs ws:List V}{ds es:List D},Reps K H vs ds->Reps K H ws es->Reps K H (vs++ws) (ds++es)
 | vs,ws,[],es,h,h'=>by cases (show vs=[] from h);exact h'
 | vs,ws,d::ds,es,h,h'=>by
   obtain⟨v,r,rfl,h1,h2⟩:=h
   exact ⟨v,r++ws,rfl,h1,Reps.append h2 h'⟩
theorem Reps.one {v:V}{d:D} (h:Rep K H v d):Reps K H [v] [d]:=⟨v,[],rfl,h,rfl⟩
theorem Reps.snoc {vs:List V}{ds:List D}{v:V}{d:D} (h:Reps K H vs ds) (h':Rep K H v d):Reps K H (vs++[v]) (ds++[d]):=h.append (.one h')
def nums (ns:List Int):List D:=ns.map D.int
abbrev tI (ns:List Int):D:=.tup (nums ns)
theorem W5:∀ ns:List Int,imms (nums ns)=true
 | []=>rfl
 | n::ns=>by show (imm (.int n)&&imms (nums ns))=true;rw [W5 ns];rfl
theorem Ak9 (ns:List Int):imm (tI ns)=true:=W5 ns
theorem Lr:∀ xs:List (List Int),imms (xs.map tI)=true
 | []=>rfl
 | x::xs=>by show (imm (tI x)&&imms (xs.map tI))=true;rw [Lr xs,Ak9];rfl
theorem Xa:∀ a b:List Int,eqDs (nums a) (nums b)=decide (a=b)
 | [],[]=>by simp [nums,eqDs]
 | [],_::_=>by simp [nums,eqDs]
 | _::_,[]=>by simp [nums,eqDs]
 | x::a,y::b=>by
   show (eqD (.int x) (.int y)&&eqDs (nums a) (nums b))=_
   rw [Xa a b]
   simp only [eqD]
   by_cases e:x=y
   . subst e;by_cases e2:a=b<;>simp [e2]
   . simp [e]
theorem Ax0 (a b:List Int):eqD (tI a) (tI b)=decide (a=b):=by simp only [eqD];exact Xa a b
theorem Ey:∀{vs:List V}{ns:List Int},Reps K H vs (nums ns)↔vs=ns.map V.int
 | vs,[]=>Iff.rfl
 | vs,n::ns=>by
   constructor
   . rintro ⟨v,r,rfl,h1,h2⟩
     have h1':v=.int n:=h1
     rw [h1',Ey.mp h2];rfl
   . rintro rfl
     exact ⟨.int n,ns.map V.int,rfl,rfl,Ey.mpr rfl⟩
end
section
variable {X:Cx}{Aa:List (Addr × Obj)}{σ:St}{H:Hp}{s:Shared}
theorem Ai4 (I:Inv X Aa σ H s) {a:Addr}{xs ys:List V} (h:SqT X.K H a xs) (h':SqL X.K H a ys):False:=by
 obtain⟨its,r,⟨o,e,c,n,d⟩,_⟩:=I.tuple h
 obtain⟨its',r',⟨o',n',e',c',_,d'⟩,_⟩:=I.list h'
 rw [e] at e';cases e'
 rw [c] at c'
 have z:("tuple":String)="list":=by injection c'
 exact absurd z (by decide)
mutual
theorem Rep.inj (I:Inv X Aa σ H s) {v:V}{d e:D} (h:Rep X.K H v d) (h':Rep X.K H v e):d=e:=by
 cases d with
 | non=>cases (show v=.non from h);cases e<;>first | rfl | (exfalso;first | (cases (show V.non=_ from h')) | (obtain⟨_,_,z,_⟩:=h';cases z))
 | bl b=>cases (show v=.bl b from h);cases e<;>first | (cases (show V.bl b=_ from h');rfl) | (exfalso;first | (cases (show V.bl b=_ from h')) | (obtain⟨_,_,z,_⟩:=h';cases z))
 | int b=>cases (show v=.int b from h);cases e<;>first | (cases (show V.int b=_ from h');rfl) | (exfalso;first | (cases (show V.int b=_ from h')) | (obtain⟨_,_,z,_⟩:=h';cases z))
 | str b=>cases (show v=.str b from h);cases e<;>first | (cases (show V.str b=_ from h');rfl) | (exfalso;first | (cases (show V.str b=_ from h')) | (obtain⟨_,_,z,_⟩:=h';cases z))
 | tup ds =>
   obtain⟨a,vs,rfl,q,r⟩:=h
   cases e with
   | tup es =>
     obtain⟨b,ws,z,q',r'⟩:=h'
     cases z
     have e1:=I.tuple_inj q q'
     subst e1
     rw [Reps.inj I r r']
   | lst es =>
     obtain⟨b,ws,z,q',r'⟩:=h'
     cases z
     exact (Ai4 I q q').elim
   | non=>cases (show V.ref a=_ from h')
   | bl _=>cases (show V.ref a=_ from h')
   | int _=>cases (show V.ref a=_ from h')
   | str _=>cases (show V.ref a=_ from h')
 | lst ds =>
   obtain⟨a,vs,rfl,q,r⟩:=h
   cases e with
   | lst es =>
     obtain⟨b,ws,z,q',r'⟩:=h'
     cases z
     have e1:=I.list_inj q q'
     subst e1
     rw [Reps.inj I r r']
   | tup es =>
     obtain⟨b,ws,z,q',r'⟩:=h'
     cases z
     exact (Ai4 I q' q).elim
   | non=>cases (show V.ref a=_ from h')
   | bl _=>cases (show V.ref a=_ from h')
   | int _=>cases (show V.ref a=_ from h')
   | str _=>cases (show V.ref a=_ from h')
theorem Reps.inj (I:Inv X Aa σ H s) {vs:List V}{ds es:List D} (h:Reps X.K H vs ds) (h':Reps X.K H vs es):ds=es:=by
 cases ds with
 | nil =>
   cases (show vs=[] from h)
   cases es with
   | nil=>rfl
   | cons e es=>obtain⟨_,_,z,_⟩:=h';cases z
 | cons d ds =>
   obtain⟨v,r,rfl,h1,h2⟩:=h
   cases es with
   | nil=>cases (show v::r=[] from h')
   | cons e es =>
     obtain⟨v',r',z,h1',h2'⟩:=h'
     cases z
     rw [Rep.inj I h1 h1',Reps.inj I h2 h2']
end
def EqD (X:Cx) (H:Hp) (s:Shared) (d:D):Prop:=∀ (A:Around) (x y:V) (u v:Value) (e:D),A.units+dep d<cLine->Rep X.K H x d->Rep X.K H y e->RelV x u->RelV y v->RcAt A s u v (eqD d e)/\EqAt A s u v (eqD d e)
theorem k0 (I:Inv X Aa σ H s) {ds es:List D}{vs ws:List V}{us us':List Value}{A:Around} (hu:A.units+deps ds<cLine) (r:Reps X.K H vs ds) (r':Reps X.K H ws es) (rv:Vals vs us) (rv':Vals ws us')
 (ih:∀ d∈ds,EqD X H s d) (hdm:∀ d∈ds,dep d<=deps ds):∀ j (h1:j<us.toArray.size) (h2:j<us'.toArray.size),EqAt A s us.toArray[j] us'.toArray[j] (match ds[j]?,es[j]? with | some x,some y=>eqD x y | _,_=>true):=by
 intro j h1 h2
 have l1:=r.length
 have l2:=r'.length
 have l3:=rv.length
 have l4:=rv'.length
 have h1':j<us.length:=by simpa using h1
 have h2':j<us'.length:=by simpa using h2
 have e1:ds[j]?=some (ds[j]'(by omega)):=by simp<;>omega
 have e2:es[j]?=some (es[j]'(by omega)):=by simp<;>omega
 obtain⟨v,ev,rd⟩:=r.get e1
 obtain⟨w,ew,re⟩:=r'.get e2
 obtain⟨u,eu,ru⟩:=rv.get ev
 obtain⟨u',eu',ru'⟩:=rv'.get ew
 have f1:us.toArray[j]=u:=by
  have:us[j]?=some us[j]:=by simp
  rw [eu] at this
  have:=(Option.some.inj this).symm
  simpa using this
 have f2:us'.toArray[j]=u':=by
  have:us'[j]?=some us'[j]:=by simp
  rw [eu'] at this
  have:=(Option.some.inj this).symm
  simpa using this
 rw [f1,f2,e1,e2]
 have hm:ds[j]'(by omega)∈ds:=List.getElem_mem _
 exact (ih _ hm A v w u u' _ (by have:=hdm _ hm;omega) rd re ru ru').2
theorem Ni:∀{ds:List D}{d:D},d∈ds->dep d<=deps ds
 | d0::ds,d,h=>by
   simp only [deps]
   rcases List.mem_cons.mp h with rfl | h
   . omega
   . have:=Ni h;omega
theorem Lg {a b:List D} (h:¬a.length=b.length):eqDs a b=false:=by
 cases q:eqDs a b with
 | false=>rfl
 | true=>exact absurd (eqDs_len q) h
mutual
theorem Am2 (I:Inv X Aa σ H s) (d:D):EqD X H s d:=by
 intro A x y u v e hu hx hy rx ry
 cases d with
 | non =>
   cases (show x=.non from hx)
   cases (show u=Value.none from rx)
   cases e with
   | non=>cases (show y=.non from hy);cases (show v=Value.none from ry);exact ⟨.none_none,.same _⟩
   | bl b=>cases (show y=.bl b from hy);cases (show v=Value.bool b from ry);exact ⟨.none_bool b,.none_bool b⟩
   | int i=>cases (show y=.int i from hy);obtain⟨t,rfl⟩:=ry;exact ⟨.none_int i t,.none_int i t⟩
   | str z=>cases (show y=.str z from hy);obtain⟨t,rfl⟩:=ry;exact ⟨.none_str z t,.none_str z t⟩
   | tup es=>obtain⟨a,vs,rfl,q,r⟩:=hy;cases ry;obtain⟨its,_,p,_⟩:=I.tuple q;exact ⟨.none_tuple p (by omega),.none_tuple p (by omega)⟩
   | lst es=>obtain⟨a,vs,rfl,q,r⟩:=hy;cases ry;obtain⟨its,_,p,_⟩:=I.list q;exact ⟨.none_list p.isList (by omega),.none_list p.isList (by omega)⟩
 | bl c =>
   cases (show x=.bl c from hx)
   cases (show u=Value.bool c from rx)
   cases e with
   | non=>cases (show y=.non from hy);cases (show v=Value.none from ry);exact ⟨.bool_none c,.bool_none c⟩
   | bl b=>cases (show y=.bl b from hy);cases (show v=Value.bool b from ry);exact ⟨.bool_bool c b,.bool_bool c b⟩
   | int i=>cases (show y=.int i from hy);obtain⟨t,rfl⟩:=ry;exact ⟨.bool_int c i t,.bool_int c i t⟩
   | str z=>cases (show y=.str z from hy);obtain⟨t,rfl⟩:=ry;exact ⟨.bool_str c z t,.bool_str c z t⟩
   | tup es=>obtain⟨a,vs,rfl,q,r⟩:=hy;cases ry;obtain⟨its,_,p,_⟩:=I.tuple q;exact ⟨.bool_tuple c p (by omega),.bool_tuple c p (by omega)⟩
   | lst es=>obtain⟨a,vs,rfl,q,r⟩:=hy;cases ry;obtain⟨its,_,p,_⟩:=I.list q;exact ⟨.bool_list c p.isList (by omega),.bool_list c p.isList (by omega)⟩
 | int c =>
   cases (show x=.int c from hx)
   obtain⟨t,rfl⟩:=rx
   cases e with
   | non=>cases (show y=.non from hy);cases (show v=Value.none from ry);exact ⟨.int_none c t,.int_none c t⟩
   | bl b=>cases (show y=.bl b from hy);cases (show v=Value.bool b from ry);exact ⟨.int_bool c t b,.int_bool c t b⟩
   | int i=>cases (show y=.int i from hy);obtain⟨t',rfl⟩:=ry;exact ⟨.int_int c t i t',.int_int c t i t'⟩
   | str z=>cases (show y=.str z from hy);obtain⟨t',rfl⟩:=ry;exact ⟨.int_str c t z t',.int_str c t z t'⟩
   | tup es=>obtain⟨a,vs,rfl,q,r⟩:=hy;cases ry;obtain⟨its,_,p,_⟩:=I.tuple q;exact ⟨.int_tuple c t p (by omega),.int_tuple c t p (by omega)⟩
   | lst es=>obtain⟨a,vs,rfl,q,r⟩:=hy;cases ry;obtain⟨its,_,p,_⟩:=I.list q;exact ⟨.int_list c t p.isList (by omega),.int_list c t p.isList (by omega)⟩
 | str c =>
   cases (show x=.str c from hx)
   obtain⟨t,rfl⟩:=rx
   cases e with
   | non=>cases (show y=.non from hy);cases (show v=Value.none from ry);exact ⟨.str_none c t,.str_none c t⟩
   | bl b=>cases (show y=.bl b from hy);cases (show v=Value.bool b from ry);exact ⟨.str_bool c t b,.str_bool c t b⟩
   | int i=>cases (show y=.int i from hy);obtain⟨t',rfl⟩:=ry;exact ⟨.str_int c t i t',.str_int c t i t'⟩
   | str z=>cases (show y=.str z from hy);obtain⟨t',rfl⟩:=ry;exact ⟨.str_str c t z t',.str_str c t z t'⟩
   | tup es=>obtain⟨a,vs,rfl,q,r⟩:=hy;cases ry;obtain⟨its,_,p,_⟩:=I.tuple q;exact ⟨.str_tuple c t p (by omega),.str_tuple c t p (by omega)⟩
   | lst es=>obtain⟨a,vs,rfl,q,r⟩:=hy;cases ry;obtain⟨its,_,p,_⟩:=I.list q;exact ⟨.str_list c t p.isList (by omega),.str_list c t p.isList (by omega)⟩
 | tup ds =>
   have hx':=hx
   obtain⟨a,vs,rfl,q,r⟩:=hx
   cases rx
   obtain⟨its,rv,p,_⟩:=I.tuple q
   have hu':A.units+1+deps ds<cLine:=by simp only [dep] at hu;omega
   cases e with
   | non=>cases (show y=.non from hy);cases (show v=Value.none from ry);exact ⟨.tuple_none p (by omega),.tuple_none p (by omega)⟩
   | bl b=>cases (show y=.bl b from hy);cases (show v=Value.bool b from ry);exact ⟨.tuple_bool b p (by omega),.tuple_bool b p (by omega)⟩
   | int i=>cases (show y=.int i from hy);obtain⟨t',rfl⟩:=ry;exact ⟨.tuple_int i t' p (by omega),.tuple_int i t' p (by omega)⟩
   | str z=>cases (show y=.str z from hy);obtain⟨t',rfl⟩:=ry;exact ⟨.tuple_str z t' p (by omega),.tuple_str z t' p (by omega)⟩
   | lst es=>obtain⟨b,ws,rfl,q',r'⟩:=hy;cases ry;obtain⟨its',_,p',_⟩:=I.list q';exact ⟨.tuple_list p p'.isList (by omega),.tuple_list p p'.isList (by omega)⟩
   | tup es =>
     have hy':=hy
     obtain⟨b,ws,rfl,q',r'⟩:=hy
     cases ry
     obtain⟨its',rv',p',_⟩:=I.tuple q'
     have main:RcAt A s (.ref a) (.ref b) (eqD (.tup ds) (.tup es)):=by
      have:=RcAt.tuples (A:=A) p p' (by omega) (k0 I (A:=A.in1) (by show A.units+1+deps ds<cLine;omega) r r' rv rv' (eqDs_ok I ds) fun d h=>Ni h)
      have l1:=r.length
      have l2:=r'.length
      have l3:=rv.length
      have l4:=rv'.length
      have e1:its.toArray.size=ds.length:=by simp<;>omega
      have e2:its'.toArray.size=es.length:=by simp<;>omega
      rw [e1,e2] at this
      simp only [eqD]
      by_cases hl:ds.length=es.length
      . rw [Lv ds es hl]
        rw [←hl,Nat.min_self] at this
        simpa using this
      . rw [Lg hl]
        have z:(ds.length==es.length)=false:=by simpa using hl
        rw [z,Bool.and_false] at this
        exact this
     refine⟨main,?_⟩
     by_cases hab:a=b
     . subst hab
       have e3:D.tup ds=D.tup es:=Rep.inj I hx' hy'
       rw [e3,Oy]
       exact .same _
     . exact .of_refs hab main
 | lst ds =>
   have hx':=hx
   obtain⟨a,vs,rfl,q,r⟩:=hx
   cases rx
   obtain⟨its,rv,p,_⟩:=I.list q
   have hu':A.units+1+deps ds<cLine:=by simp only [dep] at hu;omega
   cases e with
   | non=>cases (show y=.non from hy);cases (show v=Value.none from ry);exact ⟨.list_none p.isList (by omega),.list_none p.isList (by omega)⟩
   | bl b=>cases (show y=.bl b from hy);cases (show v=Value.bool b from ry);exact ⟨.list_bool b p.isList (by omega),.list_bool b p.isList (by omega)⟩
   | int i=>cases (show y=.int i from hy);obtain⟨t',rfl⟩:=ry;exact ⟨.list_int i t' p.isList (by omega),.list_int i t' p.isList (by omega)⟩
   | str z=>cases (show y=.str z from hy);obtain⟨t',rfl⟩:=ry;exact ⟨.list_str z t' p.isList (by omega),.list_str z t' p.isList (by omega)⟩
   | tup es=>obtain⟨b,ws,rfl,q',r'⟩:=hy;cases ry;obtain⟨its',_,p',_⟩:=I.tuple q';exact ⟨.list_tuple p.isList p' (by omega),.list_tuple p.isList p' (by omega)⟩
   | lst es =>
     have hy':=hy
     obtain⟨b,ws,rfl,q',r'⟩:=hy
     cases ry
     obtain⟨its',rv',p',_⟩:=I.list q'
     have main:RcAt A s (.ref a) (.ref b) (eqD (.lst ds) (.lst es)):=by
      have l1:=r.length
      have l2:=r'.length
      have l3:=rv.length
      have l4:=rv'.length
      have e1:its.toArray.size=ds.length:=by simp<;>omega
      have e2:its'.toArray.size=es.length:=by simp<;>omega
      simp only [eqD]
      by_cases hl:ds.length=es.length
      . have:=RcAt.lists (A:=A) p.isList p'.isList (by omega) (by omega) (k0 I (A:=A.in1) (by show A.units+1+deps ds<cLine;omega) r r' rv rv' (eqDs_ok I ds) fun d h=>Ni h)
        rw [e1] at this
        rw [Lv ds es hl]
        exact this
      . rw [Lg hl]
        exact RcAt.lists_lengths p.isList p'.isList (by simpa [e1,e2] using hl) (by omega)
     refine⟨main,?_⟩
     by_cases hab:a=b
     . subst hab
       have e3:D.lst ds=D.lst es:=Rep.inj I hx' hy'
       rw [e3,Oy]
       exact .same _
     . exact .of_refs hab main
theorem eqDs_ok (I:Inv X Aa σ H s) (ds:List D):∀ d∈ds,EqD X H s d:=by
 cases ds with
 | nil=>exact fun _ h=>nomatch h
 | cons d0 r =>
   intro d h
   rcases List.mem_cons.mp h with e | h
   . exact e▸Am2 I d0
   . exact eqDs_ok I r d h
end
def rEqD (K:W.Frag) (n:Nat):R2:=fun x y H Q=>∃ d e,Rep K H x d/\Rep K H y e/\dep d<=n/\Q (.bl (eqD d e)) H
theorem A84 {n:Nat} (hu:X.A.units+n<cLine):OpR X (compareOp .Eq) (rEqD X.K n):=by
 intro Aa s σ H x y v u Q I rx ry h
 obtain⟨d,e,hd,he,hn,q⟩:=h
 exact (Am2 I d X.A x y v u e (by omega) hd he rx ry).1 X.prog X.w X.xe _ ⟨.bl (eqD d e),H,I,rfl,q⟩
end
end L2
namespace L2
open PySem PySem.Spec PyProof.Rows PySem.SeqAt
section
variable {X:Cx}
def eqF (X:Cx) (H:Hp) (d:D) (u:Value):Bool:=@decide (∃ v e,RelV v u/\Rep X.K H v e/\eqD e d=true) (Classical.propDecidable _)
theorem Am1 {Aa:List (Addr × Obj)}{σ:St}{H:Hp}{s:Shared} (I:Inv X Aa σ H s) {d e:D}{v:V}{u:Value} (r:RelV v u) (h:Rep X.K H v e):eqF X H d u=eqD e d:=by
 cases q:eqD e d with
 | true=>exact @decide_eq_true _ (Classical.propDecidable _) ⟨v,e,r,h,q⟩
 | false =>
   refine @decide_eq_false _ (Classical.propDecidable _) ?_
   rintro ⟨v',e',r',h',q'⟩
   have:=r.inj r'
   subst this
   rw [Rep.inj I h h'] at q
   rw [q] at q'
   cases q'
theorem W9 {Aa:List (Addr × Obj)}{σ:St}{H:Hp}{s:Shared} (I:Inv X Aa σ H s) {A:Around}{x:V}{v:Value}{d:D}{vs:List V}{us:List Value}{ds:List D} (hu:A.units+deps ds<cLine) (hx:Rep X.K H x d) (rx:RelV x v)
 (r:Reps X.K H vs ds) (rv:Vals vs us):∀ y,y∈us.toArray->EqAt A s y v (eqF X H d y):=by
 intro y hy
 have hy':y∈us:=by simpa using hy
 obtain⟨i,hi⟩:=List.getElem?_of_mem hy'
 have hlt:i<us.length:=(List.getElem?_eq_some_iff.mp hi).1
 have l1:=rv.length
 obtain⟨w,hw⟩:∃ w,vs[i]?=some w:=⟨vs[i]'(by omega),by simp<;>omega⟩
 obtain⟨u,hu2,ru⟩:=rv.get hw
 rw [hi] at hu2
 cases hu2
 obtain⟨e,he,re⟩:=r.getV hw
 rw [Am1 I ru re]
 have hm:e∈ds:=List.mem_of_getElem? he
 exact (Am2 I e A w x y v d (by have:=Ni hm;omega) re hx ru rx).2
theorem i6 {Aa:List (Addr × Obj)}{σ:St}{H:Hp}{s:Shared} (I:Inv X Aa σ H s) {d:D}:∀{vs:List V}{us:List Value}{ds:List D},Reps X.K H vs ds->Vals vs us->us.any (eqF X H d)=ds.any fun e=>eqD e d
 | vs,us,[],r,rv=>by
   cases (show vs=[] from r)
   cases rv
   rfl
 | vs,us,e::ds,r,rv=>by
   obtain⟨v,q,rfl,h1,h2⟩:=r
   cases rv with
   | cons r1 r2=>rw [List.any_cons,List.any_cons,Am1 I r1 h1,i6 I h2 r2]
def SeqD (K:W.Frag) (H:Hp) (y:V) (ds:List D):Prop:=Rep K H y (.lst ds)\/Rep K H y (.tup ds)
def rInD (K:W.Frag) (n:Nat) (neg:Bool):R2:=fun x y H Q=>∃ d ds,Rep K H x d/\SeqD K H y ds/\deps ds+1<=n/\Q (.bl (if neg then !(ds.any fun e=>eqD e d) else ds.any fun e=>eqD e d)) H
theorem A82 {n:Nat} (hu:X.A.units+n<cLine):OpR X (compareOp .In) (rInD X.K n false):=by
 intro Aa s σ H x y v u Q I rx ry h
 obtain⟨d,ds,hx,hs,hn,q⟩:=h
 have fin:∀{us:List Value}{vs:List V},Reps X.K H vs ds->Vals vs us->EP X Aa σ Q (.bool (us.toArray.any (eqF X H d))) s:=fun r rv =>
  ⟨.bl (ds.any fun e=>eqD e d),H,I,by show Value.bool _=Value.bool _;rw [List.any_toArray,i6 I r rv],q⟩
 rcases hs with ⟨a,vs,rfl,hq,r⟩|⟨a,vs,rfl,hq,r⟩
 . cases ry
   obtain⟨its,rv,p,_⟩:=I.list hq
   exact in_listAt (eqF X H d) p.isList (W9 I (A:=X.A.in1) (by show X.A.units+1+deps ds<cLine;omega) hx rx r rv) (fin r rv)
 . cases ry
   obtain⟨its,rv,p,_⟩:=I.tuple hq
   exact in_tupleAt (eqF X H d) p (W9 I (A:=X.A.in1) (by show X.A.units+1+deps ds<cLine;omega) hx rx r rv) (fin r rv)
theorem Ah6 {n:Nat} (hu:X.A.units+n<cLine):OpR X (compareOp .NotIn) (rInD X.K n true):=by
 intro Aa s σ H x y v u Q I rx ry h
 obtain⟨d,ds,hx,hs,hn,q⟩:=h
 have fin:∀{us:List Value}{vs:List V},Reps X.K H vs ds->Vals vs us->EP X Aa σ Q (.bool (!us.toArray.any (eqF X H d))) s:=fun r rv =>
  ⟨.bl (!(ds.any fun e=>eqD e d)),H,I,by show Value.bool _=Value.bool _;rw [List.any_toArray,i6 I r rv],q⟩
 rcases hs with ⟨a,vs,rfl,hq,r⟩|⟨a,vs,rfl,hq,r⟩
 . cases ry
   obtain⟨its,rv,p,_⟩:=I.list hq
   exact notIn_listAt (eqF X H d) p.isList (W9 I (A:=X.A.in1) (by show X.A.units+1+deps ds<cLine;omega) hx rx r rv) (fin r rv)
 . cases ry
   obtain⟨its,rv,p,_⟩:=I.tuple hq
   exact notIn_tupleAt (eqF X H d) p (W9 I (A:=X.A.in1) (by show X.A.units+1+deps ds<cLine;omega) hx rx r rv) (fin r rv)
def Av9 (K:W.Frag) (n:Nat):V->List V->Hp->VK->Prop:=fun x vs H Q=>∃ ds y d j,vs=[y]/\Rep K H x (.lst ds)/\Rep K H y d/\deps ds+1<=n/\ds.findIdx? (fun e=>eqD e d)=some j/\Q (.int (j:Nat)) H
theorem At3 {n:Nat} (hu:X.A.units+n<cLine):MtR X "list.index" (Av9 X.K n):=by
 intro Aa s σ H x vs v us Q I rx rv h
 obtain⟨ds,y,d,j,rfl,⟨a,ws,rfl,hq,r⟩,hy,hn,hj,q⟩:=h
 cases rx
 obtain⟨u,rfl,ru⟩:=rv.one
 obtain⟨its,rw',p,hz⟩:=I.list hq
 have l1:=r.length
 have l2:=rw'.length
 obtain⟨hlt,hit,hno⟩:=List.findIdx?_eq_some_iff_getElem.mp hj
 have at':∀ m (hm:m<its.toArray.size) (hm':m<ds.length),eqF X H d its.toArray[m]=eqD ds[m] d:=fun m hm hm'=>by
  obtain⟨w,hw,re⟩:=r.get (i:=m) (d:=ds[m]) (by simp)
  obtain⟨u',hu',ru'⟩:=rw'.get hw
  have e1:its.toArray[m]=u':=by
   have hm2:m<its.length:=by simpa using hm
   have:its[m]?=some its[m]:=by simp
   rw [hu'] at this
   have:=(Option.some.inj this).symm
   simpa using this
  rw [e1]
  exact Am1 I ru' re
 obtain⟨o,k,ho,hc,hdn,hd⟩:=id p
 obtain⟨cls,dd,data,sl⟩:=o
 simp only at hc hdn hd
 subst hc hdn hd
 have hsz:ds.length<=sizeLine:=by omega
 have big:(sizeLine:Nat)<2 ^ 62:=by rw [sizeLine_eq];decide
 refine call_meets PySem.F.slot_list_index ⟨_,ho,rfl⟩ PySem.F.entry_list_index (PySem.F.args_list_index_2 _ _)
  (list_indexAt a its.toArray k none sl u (eqF X H d) j (by simp<;>omega) (by omega) ?_ ?_) ⟨ho,W9 I (A:=X.A.in1) (by show X.A.units+1+deps ds<cLine;omega) hy ru r rw',?_⟩
 . rw [at' j (by simp<;>omega) hlt];exact hit
 . intro m hm hmj
   rw [at' m hm (by omega)]
   have:=hno m hmj
   simpa using this
 . exact ⟨.int (j:Nat),H,I.tok _,⟨_,rfl⟩,q⟩
def rNeD (K:W.Frag) (n:Nat):R2:=fun x y H Q=>∃ d e,Rep K H x d/\Rep K H y e/\dep d<=n/\Q (.bl (!eqD d e)) H
theorem A79 {n:Nat} (hu:X.A.units+n<cLine):OpR X (compareOp .NotEq) (rNeD X.K n):=by
 intro Aa s σ H x y v u Q I rx ry h
 obtain⟨d,e,hd,he,hn,q⟩:=h
 have fin:EP X Aa σ Q (.bool (!eqD d e)) s:=⟨.bl (!eqD d e),H,I,rfl,q⟩
 have go:∀{k:Bool},RcNeAt X.A s v u k->k=(!eqD d e)->wpAny (model X.prog X.w) X.A (compareOp .NotEq v u) (EP X Aa σ Q) X.xe s:=fun h1 h2=>by
  subst h2
  exact h1 X.prog X.w X.xe _ fin
 cases d with
 | non =>
   cases (show x=.non from hd)
   cases (show v=Value.none from rx)
   cases e with
   | non=>cases (show y=.non from he);cases (show u=Value.none from ry);exact go .none_none rfl
   | bl b=>cases (show y=.bl b from he);cases (show u=Value.bool b from ry);exact go (.none_bool b) rfl
   | int i=>cases (show y=.int i from he);obtain⟨t,rfl⟩:=ry;exact go (.none_int i t) rfl
   | str z=>cases (show y=.str z from he);obtain⟨t,rfl⟩:=ry;exact go (.none_str z t) rfl
   | tup es=>obtain⟨a,vs,rfl,q,r⟩:=he;cases ry;obtain⟨its,_,p,_⟩:=I.tuple q;exact go (.none_tuple p (by omega)) rfl
   | lst es=>obtain⟨a,vs,rfl,q,r⟩:=he;cases ry;obtain⟨its,_,p,_⟩:=I.list q;exact go (.none_list p.isList (by omega)) rfl
 | bl c =>
   cases (show x=.bl c from hd)
   cases (show v=Value.bool c from rx)
   cases e with
   | non=>cases (show y=.non from he);cases (show u=Value.none from ry);exact go (.bool_none c) rfl
   | bl b=>cases (show y=.bl b from he);cases (show u=Value.bool b from ry);exact go (.bool_bool c b) rfl
   | int i=>cases (show y=.int i from he);obtain⟨t,rfl⟩:=ry;exact go (.bool_int c i t) rfl
   | str z=>cases (show y=.str z from he);obtain⟨t,rfl⟩:=ry;exact go (.bool_str c z t) rfl
   | tup es=>obtain⟨a,vs,rfl,q,r⟩:=he;cases ry;obtain⟨its,_,p,_⟩:=I.tuple q;exact go (.bool_tuple c p (by omega)) rfl
   | lst es=>obtain⟨a,vs,rfl,q,r⟩:=he;cases ry;obtain⟨its,_,p,_⟩:=I.list q;exact go (.bool_list c p.isList (by omega)) rfl
 | int c =>
   cases (show x=.int c from hd)
   obtain⟨t,rfl⟩:=rx
   cases e with
   | non=>cases (show y=.non from he);cases (show u=Value.none from ry);exact go (.int_none c t) rfl
   | bl b=>cases (show y=.bl b from he);cases (show u=Value.bool b from ry);exact go (.int_bool c t b) rfl
   | int i=>cases (show y=.int i from he);obtain⟨t',rfl⟩:=ry;exact go (.int_int c t i t') rfl
   | str z=>cases (show y=.str z from he);obtain⟨t',rfl⟩:=ry;exact go (.int_str c t z t') rfl
   | tup es=>obtain⟨a,vs,rfl,q,r⟩:=he;cases ry;obtain⟨its,_,p,_⟩:=I.tuple q;exact go (.int_tuple c t p (by omega)) rfl
   | lst es=>obtain⟨a,vs,rfl,q,r⟩:=he;cases ry;obtain⟨its,_,p,_⟩:=I.list q;exact go (.int_list c t p.isList (by omega)) rfl
 | str c =>
   cases (show x=.str c from hd)
   obtain⟨t,rfl⟩:=rx
   cases e with
   | non=>cases (show y=.non from he);cases (show u=Value.none from ry);exact go (.str_none c t) rfl
   | bl b=>cases (show y=.bl b from he);cases (show u=Value.bool b from ry);exact go (.str_bool c t b) rfl
   | int i=>cases (show y=.int i from he);obtain⟨t',rfl⟩:=ry;exact go (.str_int c t i t') rfl
   | str z=>cases (show y=.str z from he);obtain⟨t',rfl⟩:=ry;exact go (.str_str c t z t') rfl
   | tup es=>obtain⟨a,vs,rfl,q,r⟩:=he;cases ry;obtain⟨its,_,p,_⟩:=I.tuple q;exact go (.str_tuple c t p (by omega)) rfl
   | lst es=>obtain⟨a,vs,rfl,q,r⟩:=he;cases ry;obtain⟨its,_,p,_⟩:=I.list q;exact go (.str_list c t p.isList (by omega)) rfl
 | tup ds =>
   obtain⟨a,vs,rfl,q1,r⟩:=hd
   cases rx
   obtain⟨its,rv,p,_⟩:=I.tuple q1
   have hu':X.A.units+1+deps ds<cLine:=by simp only [dep] at hn;omega
   cases e with
   | non=>cases (show y=.non from he);cases (show u=Value.none from ry);exact go (.tuple_none p (by omega)) rfl
   | bl b=>cases (show y=.bl b from he);cases (show u=Value.bool b from ry);exact go (.tuple_bool b p (by omega)) rfl
   | int i=>cases (show y=.int i from he);obtain⟨t',rfl⟩:=ry;exact go (.tuple_int i t' p (by omega)) rfl
   | str z=>cases (show y=.str z from he);obtain⟨t',rfl⟩:=ry;exact go (.tuple_str z t' p (by omega)) rfl
   | lst es=>obtain⟨b,ws,rfl,q',r'⟩:=he;cases ry;obtain⟨its',_,p',_⟩:=I.list q';exact go (.tuple_list p p'.isList (by omega)) rfl
   | tup es =>
     obtain⟨b,ws,rfl,q',r'⟩:=he
     cases ry
     obtain⟨its',rv',p',_⟩:=I.tuple q'
     refine go (RcNeAt.tuples p p' (by omega) (k0 I (A:=X.A.in1) (by show X.A.units+1+deps ds<cLine;omega) r r' rv rv' (eqDs_ok I ds) fun d h=>Ni h)) ?_
     have l1:=r.length
     have l2:=r'.length
     have l3:=rv.length
     have l4:=rv'.length
     have e1:its.toArray.size=ds.length:=by simp<;>omega
     have e2:its'.toArray.size=es.length:=by simp<;>omega
     rw [e1,e2]
     simp only [eqD]
     by_cases hl:ds.length=es.length
     . rw [Lv ds es hl,←hl,Nat.min_self]
       simp
     . rw [Lg hl]
       have z:(ds.length==es.length)=false:=by simpa using hl
       rw [z,Bool.and_false]
 | lst ds =>
   obtain⟨a,vs,rfl,q1,r⟩:=hd
   cases rx
   obtain⟨its,rv,p,_⟩:=I.list q1
   have hu':X.A.units+1+deps ds<cLine:=by simp only [dep] at hn;omega
   cases e with
   | non=>cases (show y=.non from he);cases (show u=Value.none from ry);exact go (.list_none p.isList (by omega)) rfl
   | bl b=>cases (show y=.bl b from he);cases (show u=Value.bool b from ry);exact go (.list_bool b p.isList (by omega)) rfl
   | int i=>cases (show y=.int i from he);obtain⟨t',rfl⟩:=ry;exact go (.list_int i t' p.isList (by omega)) rfl
   | str z=>cases (show y=.str z from he);obtain⟨t',rfl⟩:=ry;exact go (.list_str z t' p.isList (by omega)) rfl
   | tup es=>obtain⟨b,ws,rfl,q',r'⟩:=he;cases ry;obtain⟨its',_,p',_⟩:=I.tuple q';exact go (.list_tuple p.isList p' (by omega)) rfl
   | lst es =>
     obtain⟨b,ws,rfl,q',r'⟩:=he
     cases ry
     obtain⟨its',rv',p',_⟩:=I.list q'
     have l1:=r.length
     have l2:=r'.length
     have l3:=rv.length
     have l4:=rv'.length
     have e1:its.toArray.size=ds.length:=by simp<;>omega
     have e2:its'.toArray.size=es.length:=by simp<;>omega
     by_cases hl:ds.length=es.length
     . refine go (RcNeAt.lists p.isList p'.isList (by omega) (by omega) (k0 I (A:=X.A.in1) (by show X.A.units+1+deps ds<cLine;omega) r r' rv rv' (eqDs_ok I ds) fun d h=>Ni h)) ?_
       rw [e1]
       simp only [eqD]
       rw [Lv ds es hl]
     . refine go (RcNeAt.lists_lengths p.isList p'.isList (by simpa [e1,e2] using hl) (by omega)) ?_
       simp only [eqD]
       rw [Lg hl]
       rfl
def isD (n:String):D->Bool
 | .non=>false
 | .bl _=>n=="int" || n=="bool"
 | .int _=>n=="int"
 | .str _=>n=="str"
 | .tup _=>n=="tuple"
 | .lst _=>n=="list"
def tyD:D->String
 | .non=>"NoneType"
 | .bl _=>"bool"
 | .int _=>"int"
 | .str _=>"str"
 | .tup _=>"tuple"
 | .lst _=>"list"
theorem Aw7 {K:W.Frag}{n:String}{d:D} (hn:n="int"\/n="bool"\/n="str"\/n="tuple"\/n="list"\/n="dict"):PySem.W.kitOne K (.type (tyD d)) (.type n)=some (isD n d):=by
 rcases hn with rfl | rfl | rfl | rfl | rfl | rfl<;>cases d<;>(unfold PySem.W.kitOne PySem.W.kitCls PySem.W.subIn tyD isD;first | rfl | decide +kernel)
theorem K9:Du X (.builtin "isinstance") (fun xs H Q=>∃ x n d,xs=[x,.ty n]/\(n="int"\/n="bool"\/n="str"\/n="tuple"\/n="list"\/n="dict")/\Rep X.K H x d/\Q (.bl (isD n d)) H):=by
 intro Aa s σ H xs us Q I r h
 obtain⟨x,n,d,rfl,hn,hx,q⟩:=h
 obtain⟨u,v,rfl,rx,rt⟩:=Vz r
 cases rt
 have k:=Aw7 (K:=X.K) (d:=d) hn
 have fin:∀ tk,EP X Aa σ Q (.bool (isD n d)) { s with toks:=tk }:=fun tk=>⟨.bl (isD n d),H,I.tok tk,rfl,q⟩
 cases d with
 | non=>cases (show x=.non from hx);cases (show u=Value.none from rx);exact PySem.W.kia_one PySem.W.kitx_none I.kIn True.intro k (fun z=>nomatch z) fin
 | bl b=>cases (show x=.bl b from hx);cases (show u=Value.bool b from rx);exact PySem.W.kia_one PySem.W.kitx_bool I.kIn True.intro k (fun z=>nomatch z) fin
 | int b=>cases (show x=.int b from hx);obtain⟨t,rfl⟩:=rx;exact PySem.W.kia_one PySem.W.kitx_int I.kIn True.intro k (fun z=>nomatch z) fin
 | str b=>cases (show x=.str b from hx);obtain⟨t,rfl⟩:=rx;exact PySem.W.kia_one PySem.W.kitx_str I.kIn True.intro k (fun z=>nomatch z) fin
 | tup ds =>
   obtain⟨a,vs,rfl,hq,_⟩:=hx
   cases rx
   obtain⟨its,_,⟨o,e,c,_⟩,_⟩:=I.tuple hq
   exact PySem.W.kia_one PySem.W.kitx_tuple I.kIn ⟨o,e,c⟩ k (fun z=>nomatch z) fin
 | lst ds =>
   obtain⟨a,vs,rfl,hq,_⟩:=hx
   cases rx
   obtain⟨its,_,⟨o,_,e,c,_⟩,_⟩:=I.list hq
   exact PySem.W.kia_one PySem.W.kitx_list I.kIn ⟨o,e,c⟩ k (fun z=>nomatch z) fin
def A72 (K:W.Frag):R2:=fun x y H Q=>∃ a b xs ys,x=.ref a/\y=.ref b/\SqT K H a xs/\SqT K H b ys/\xs.length+ys.length<=sizeLine/\∀ p H',Same H H'->SqT K H' p (xs++ys)->Q (.ref p) H'
theorem A01:OpR X (binaryOp .Add) (A72 X.K):=by
 intro Aa s σ H x y v u Q I rx ry h
 obtain⟨a,b,xs,ys,rfl,rfl,ha,hb,hz,q⟩:=h
 by_cases hx:xs=[]
 . subst hx
   cases rx
   cases ry
   obtain⟨its,r1,p1,_⟩:=I.tuple ha
   obtain⟨its2,r2,p2,_⟩:=I.tuple hb
   cases r1
   obtain⟨⟨cls,dd,data,sl⟩,ho,hc,n,hd⟩:=id p1
   obtain⟨⟨cls2,dd2,data2,sl2⟩,ho2,hc2,n2,hd2⟩:=id p2
   simp only at hc hd hc2 hd2
   subst hc hd hc2 hd2
   exact concat_meets ⟨_,ho,rfl⟩ ⟨_,ho2,rfl⟩ noFill_tuple_add seq_tuple_add PySem.F.slot_tuple_add PySem.F.entry_tuple_add (PySem.F.args_tuple_add_2 _ _)
    (tuple_addW0 a b _ _ n n2 dd dd2 sl sl2 (by simp)) ⟨ho,ho2,⟨.ref b,H,I,rfl,q b H (Same.refl H) (by simpa using hb)⟩⟩
 . refine A02 Aa s σ H (.ref a) (.ref b) v u Q I rx ry ⟨a,b,xs,ys,rfl,rfl,ha,hb,hx,hz,fun e=>?_,fun e p hp=>?_⟩
   . subst e;exact q a H (Same.refl H) (by simpa using ha)
   . exact q p _ (Same.new hp) (.of Ac)
def A71 (K:W.Frag):V->Option Int->Option Int->Hp->VK->Prop:=fun x lo hi H Q=>∃ a xs,x=.ref a/\SqT K H a xs ∧
 ¬(HT.sIx xs.length 0 lo=0/\HT.sIx xs.length xs.length hi=xs.length)/\∀ p H',Same H H'->SqT K H' p (cutV xs lo hi)->Q (.ref p) H'
theorem Ay1:SlR X (A71 X.K):=by
 intro Aa s σ H x v vl vu lo hi sl Q I rx hs pl pu h
 obtain⟨a,xs,rfl,hx,hw,q⟩:=h
 exact A65 Aa s σ H (.ref a) v vl vu lo hi sl Q I rx hs pl pu ⟨a,xs,rfl,hx,hw,fun p hp=>q p _ (Same.new hp) (.of Ac)⟩
def Aw0 (K:W.Frag):R2:=fun x y H Q=>∃ l b xs zs,x=.ref l/\y=.ref b/\SqL K H l xs/\SqL K H b zs/\xs.length+zs.length<=sizeLine/\∀ p,H p=none->Q (.ref p) (upd H p (.lst (xs++zs)))
theorem As6:OpR X (binaryOp .Add) (Aw0 X.K):=by
 intro Aa s σ H x y v u Q I rx ry h
 obtain⟨l,b,xs,zs,rfl,rfl,hl,hb,hz,q⟩:=h
 cases rx
 cases ry
 obtain⟨its,r1,p1,_⟩:=I.list hl
 obtain⟨its2,r2,p2,_⟩:=I.list hb
 obtain⟨⟨cls,dd,data,sl⟩,n,ho,hc,hdd,hd⟩:=id p1
 obtain⟨⟨cls2,dd2,data2,sl2⟩,n2,ho2,hc2,hdd2,hd2⟩:=id p2
 simp only at hc hd hc2 hd2
 subst hc hd hc2 hd2
 refine concat_meets ⟨_,ho,rfl⟩ ⟨_,ho2,rfl⟩ noFill_list_add seq_list_add PySem.F.slot_list_add PySem.F.entry_list_add (PySem.F.args_list_add_2 _ _)
  (list_addW l b its.toArray its2.toArray n n2 dd dd2 sl sl2 (by rw [List.size_toArray,List.size_toArray,←r1.length,←r2.length];exact hz)) ⟨ho,ho2,?_⟩
 rw [show its.toArray++its2.toArray=(its++its2).toArray by simp]
 exact ⟨.ref s.heap.objs.size,_,I.lnew (t':=s.toks) (r1.append r2) (by rw [List.length_append];exact hz),rfl,q _ I.fresh⟩
theorem Ap1 (hc:X.calm=true):Du X (.builtin "all") (fun xs H Q=>∃ (p:Addr) (bs:List Bool),xs=[.ref p]/\SqL X.K H p (bs.map V.bl)/\Q (.bl (bs.all id)) H):=by
 intro Aa s σ H xs us Q I r h
 obtain⟨p,bs,rfl,hq,q⟩:=h
 obtain⟨u,rfl,ru⟩:=Mc r
 cases ru
 obtain⟨its,rv,pl,hz⟩:=I.list hq
 have hh:X.A.handled=none:=I.ok.hd hc
 have rel:∀ (i:Nat) (v:Value),its.toArray[i]?=some v->∃ b,bs[i]?=some b/\v=.bool b:=fun i v e=>by
  have e':its[i]?=some v:=by simpa using e
  have hlt:i<its.length:=(List.getElem?_eq_some_iff.mp e').1
  have l1:=rv.length
  rw [List.length_map] at l1
  have hb:bs[i]?=some (bs[i]'(by omega)):=by simp<;>omega
  obtain⟨u,hu,ru⟩:=rv.get (i:=i) (x:=V.bl (bs[i]'(by omega))) (by rw [List.getElem?_map,hb];rfl)
  rw [e'] at hu
  cases hu
  exact ⟨_,hb,ru⟩
 refine call_all_walk (wpAny_pyIter_list pl.isList ?_)
 refine⟨s.heap.objs.size,[s.heap.objs.size,p],[s.heap.objs.size],its.toArray.size,_,_,fun i=>(bs[i]?).getD true,rfl,Walks.list (show X.A.in1.handled=none from hh) s.heap.objs.size p ?_ its.toArray,⟨⟨_,Heap.get?_push_size _ rfl,rfl,rfl⟩,?_⟩,?_,fun h' tk k=>?_⟩
 . obtain⟨o,_,ho,_⟩:=pl
   exact Nat.ne_of_lt (Heap.lt_size ho)
 . exact pl.isList.at fun o e=>Heap.get?_push_of_some _ e
 . intro i v s' Q' E' hv hQ
   obtain⟨b,hb,rfl⟩:=rel i v hv
   dsimp only at hQ
   rw [hb] at hQ
   exact wpAny_truthy_bool hQ
 . have e:(List.range its.toArray.size).all (fun i=>(bs[i]?).getD true)=bs.all id:=by
    have l1:=rv.length
    rw [List.length_map] at l1
    rw [List.size_toArray,←l1]
    rw [Bool.eq_iff_iff,List.all_eq_true,List.all_eq_true]
    constructor
    . intro hx b hb
      obtain⟨i,hi⟩:=List.getElem?_of_mem hb
      have:=hx i (List.mem_range.mpr (List.getElem?_eq_some_iff.mp hi).1)
      rw [hi] at this
      exact this
    . intro hx i hi
      have hlt:=List.mem_range.mp hi
      have hb:bs[i]?=some bs[i]:=by simp
      rw [hb]
      exact hx _ (List.getElem_mem _)
   rw [e]
   have I1:Inv X Aa σ H { s with heap:=h',toks:=tk }:=I.kept (fun b o e=>k b o (by simp;exact Nat.ne_of_lt (Heap.lt_size e)) (Heap.get?_push_of_some _ e))
   exact ⟨.bl (bs.all id),H,I1,rfl,q⟩
end
structure Has (P:Program) (w:World) (K:W.Frag) (mg:Str->Option Value) (base:Heap) (x:Str) (ps:List Str) (k:Nat) (sp:Sp):Prop where
 ex:∃ (f:Addr) (fd:FuncData),mg x=some (.ref f)/\PySem.W.keepIn K (.ref f)=true/\N1 K fd ps []/\FnOk P w K mg base CX0 k f fd ps sp
section
variable {X:Cx}{x:Str}{ps:List Str}{j k:Nat}{sp:Sp}{p pos:Pos}{e:Expr}{es:List Expr}{t:TA}
theorem Am (h:Has X.prog X.w X.K X.mg X.base x ps j sp) (hr:Room k X.A) (hg:Gl X x) (ha:PA X (e::es) t) (hk:j<=k:=by decide) (hdb:(x==("__debug__":Str))=false:=by decide)
 (he:starEach (e::es) X.env=(false,eval e X.env)::starEach es X.env:=by rfl) (hpl:(backTo pos (starEach es X.env)).any (·.1)=false:=by rfl):PE X (.Call (.Name x p) (e::es) [] pos) (tCall sp [] E0 t):=by
 obtain⟨f,fd,h1,h2,h3,h4⟩:=h.ex
 exact Az8 h4 (hr.mono hk) hg h1 h2 h3 .nil Az9 ha hdb he hpl
end
theorem boot_intT:bootBuiltins "int"=some (.type "int"):=by decide +kernel
theorem Nu:bootBuiltins "bool"=some (.type "bool"):=by decide +kernel
theorem E8:bootBuiltins "tuple"=some (.type "tuple"):=by decide +kernel
theorem Jv:bootBuiltins "list"=some (.type "list"):=by decide +kernel
theorem Ds:bootBuiltins "dict"=some (.type "dict"):=by decide +kernel
theorem Da:bootBuiltins "max"=some (.builtin "max"):=by decide +kernel
theorem Ji:bootBuiltins "all"=some (.builtin "all"):=by decide +kernel
theorem A3:bootBuiltins "isinstance"=some (.builtin "isinstance"):=by decide +kernel
end L2
namespace L2
open PySem PySem.Spec PyProof.Rows
section
variable {X:Cx}{K:W.Frag}{tg l:Expr}{tl:TE}{n:Nat}
theorem Ov (hK:X.K=K:=by rfl):OpR X (binaryOp .Add) (A72 K):=by subst hK;exact A01
theorem Iq (hK:X.K=K:=by rfl):OpR X (binaryOp .Add) (Aw0 K):=by subst hK;exact As6
theorem Jo (hK:X.K=K:=by rfl):SlR X (A71 K):=by subst hK;exact Ay1
theorem Ln (hK:X.K=K:=by rfl):SlR X (rSlL K):=by subst hK;exact Ay3
theorem Bi (hK:X.K=K:=by rfl):IxR X (rIxL K):=by subst hK;exact A23
theorem Ce (hK:X.K=K:=by rfl):IxR X (rIxT K):=by subst hK;exact Ba7
theorem Ap (hK:X.K=K:=by rfl):Du X (.builtin "len") (fun xs H Q=>∃ p ys,xs=[.ref p]/\(SqL K H p ys\/SqT K H p ys)/\Q (.int ys.length) H):=by subst hK;exact Xu
theorem Lq (hK:X.K=K:=by rfl):Du X (.type "list") (fun xs H Q=>∃ p ys,xs=[.ref p]/\(SqL K H p ys\/SqT K H p ys)/\∀ l,H l=none->Q (.ref l) (upd H l (.lst ys))):=by subst hK;exact Xt
theorem Dw (hK:X.K=K:=by rfl):Du X (.type "tuple") (fun xs H Q=>∃ p ys,xs=[.ref p]/\((SqL K H p ys/\∀ l,H l=none->Q (.ref l) (upd H l (.tup ys)))\/(SqT K H p ys/\Q (.ref p) H))):=by subst hK;exact Vq
theorem D4 (hK:X.K=K:=by rfl):Du X (.builtin "isinstance") (fun xs H Q=>∃ x n d,xs=[x,.ty n]/\(n="int"\/n="bool"\/n="str"\/n="tuple"\/n="list"\/n="dict")/\Rep K H x d/\Q (.bl (isD n d)) H):=by subst hK;exact K9
theorem Gg (hc:X.calm=true) (hK:X.K=K:=by rfl):Du X (.builtin "all") (fun xs H Q=>∃ (p:Addr) (bs:List Bool),xs=[.ref p]/\SqL K H p (bs.map V.bl)/\Q (.bl (bs.all id)) H):=by subst hK;exact Ap1 hc
theorem A18 (hu:X.A.units+n<cLine) (hK:X.K=K:=by rfl):OpR X (compareOp .In) (rInD K n false):=by subst hK;exact A82 hu
theorem Jp (hu:X.A.units+n<cLine) (hK:X.K=K:=by rfl):OpR X (compareOp .NotIn) (rInD K n true):=by subst hK;exact Ah6 hu
theorem A19 (hu:X.A.units+n<cLine) (hK:X.K=K:=by rfl):OpR X (compareOp .Eq) (rEqD K n):=by subst hK;exact A84 hu
theorem A17 (hu:X.A.units+n<cLine) (hK:X.K=K:=by rfl):OpR X (compareOp .NotEq) (rNeD K n):=by subst hK;exact A79 hu
theorem Aj9 (hu:X.A.units+n<cLine) (hK:X.K=K:=by rfl):MtR X "list.index" (Av9 K n):=by subst hK;exact At3 hu
theorem Ej (hl:PE X l tl) (hK:X.K=K:=by rfl):PI X tg l (Ba9 K tl):=by subst hK;exact Az4 hl
theorem U0 (hl:PE X l tl) (hK:X.K=K:=by rfl):PI X tg l (iTup K tl):=by subst hK;exact A74 hl
variable {o e:Expr}{es:List Expr}{to:TE}{t:TA}{name:Str}{apos cpos:Pos}{T id:String}{r:V->List V->Hp->VK->Prop}
theorem Lp (pa:PlainAttrs T) (slot:Slot T name id) (hty:typeOf (.builtin id)=pure (.type "method_descriptor")) (hm:MtR X id r) (ho:PE X o to) (ha:PA X (e::es) t) (hK:X.K=K:=by rfl)
 (hbase:attributeBase o name X.env (eval o X.env)=eval o X.env:=by rfl)
 (hfew:((backTo cpos (starEach (e::es) X.env)).all (fun x=>!x.1)&&(backToKw cpos (keywordEach [] X.env)).all (fun x=>x.1.isSome)
   && decide ((e::es).length+([]:List Keyword).length+(if ([]:List Keyword).isEmpty then 0 else 1)<30))=true:=by rfl)
 (hline:(apos.endLine==cpos.line)=true:=by rfl) (hs:starEach (e::es) X.env=(false,eval e X.env)::starEach es X.env:=by rfl) (hplain:(backTo cpos (starEach es X.env)).any (·.1)=false:=by rfl) :
 PE X (.Call (.Attribute o name apos) (e::es) [] cpos) (tBM K T r to t):=by subst hK;exact Bd9 pa slot hty hm ho ha hbase hfew hline hs hplain
theorem Ip {es:List Expr}{k:Nat}{t:TGs}{n:Nat}{pos:Pos} (hc:X.calm=true) (h:PGs X es t) (hK:X.K=K:=by rfl)
 (hn:(assignEach es X.env).length=n:=by rfl) (hst:(assignEach es X.env).findIdx? (·.1)=none:=by rfl):PG X (.Tuple es k pos) (gTup K n t):=by subst hK;exact A75 hc h hn hst
end
end L2
namespace L2
open PySem PySem.Spec PyProof.Rows
end L2
namespace L2
open PySem PySem.Spec PyProof.Rows
section
variable {fs:List Addr}{H H':Hp}{h B h' h2:Heap}
end
abbrev XJ:=Value->Option Addr->St->Hp->Prop
section
variable {X:Cx}{Aa:List (Addr × Obj)}{σ:St}{H H':Hp}{s s':Shared}{e:Addr}{cls a0:Value}{dx:Option Addr}
end
section
variable {P:Program}{w:World}{K:W.Frag}{mg:Str->Option Value}{base:Heap}{N:List Str}{qual:Str}{scope:Scope}{f:Addr}{cd:Value}{A:Around}{outer:List Env}{s:Shared}{H:Hp}{E:XK}
end
section
variable {X:Cx}{J:XJ}{x:Str}{ps:List Str}{j k:Nat}{sp:Sp}{p pos:Pos}{e:Expr}{es:List Expr}{t:TA}
end
end L2
namespace L2
open PySem PySem.Spec PyProof.Rows PySem.W
section
variable {X:Cx}{Aa pn:List (Addr × Obj)}{σ:St}{H:Hp}{s:Shared}{J:XJ}
end
section
variable {X:Cx}{th:Ends->XJ}
end
section
variable {prog:Program}{w:World}{A:Around}{E:Value->Shared->Prop}{h:Heap}{g:Array GenState}{d:Drawn}{t:Nat}{os:OsState}{a C:Addr}{o:Obj}{K:Frag}
end
section
variable {X:Cx}{K:Frag}
end
end L2
namespace L2
open PySem PySem.Spec PyProof.Rows
def Ite (K:W.Frag) (a:Addr):It :=
 ⟨fun i H=>∃ xs x,SqL K H a xs/\xs[i]?=some x,fun i H x H'=>∃ p v,H p=none/\x=.ref p/\H'=upd H p (.tup [.int i,v])/\∀ xs,SqL K H a xs->xs[i]?=some v,fun i H=>∃ xs,SqL K H a xs/\xs.length<=i⟩
theorem Af2 {P:Program}{w:World}{K:W.Frag}{es:List Expr}{x1:Nat}{tpos:Pos} (a e it:Addr) (hne:e≠it):Turn P w K (.Tuple es x1 tpos) (Ite K a) [e,it] e (fun i h=>(∃ old,IsEnum h e it (i:Int) old)/\h.IsListIter it a i) where
 mem:=by simp
 obj:=fun i h st b hb=>by
  obtain⟨⟨old,h1⟩,o,h2,c,d⟩:=st
  rcases List.mem_cons.mp hb with rfl | hb
  . exact ⟨_,h1,fun v z=>by cases (show Data.fields _=Data.cell v from z)⟩
  . have z:b=it:=by simpa using hb
    subst z
    exact ⟨o,h2,fun v z=>by rw [d] at z;cases z⟩
 keep:=fun i h h' st k=>by
  obtain⟨⟨old,h1⟩,h2⟩:=st
  exact ⟨⟨old,k e (by simp) _ h1⟩,h2.at fun o z=>k it (by simp) o z⟩
 item:=by
  intro X hP hw hK hc i Aa s σ H E I hf st hg
  subst hP hw hK
  obtain⟨⟨old,h1⟩,h2⟩:=st
  obtain⟨xs,x,hq,hx⟩:=hg
  obtain⟨its,rv,p,hz⟩:=I.list hq
  obtain⟨u,hu,ru⟩:=rv.get hx
  have fe:=hf e (by simp)
  have fi:=hf it (by simp)
  have lte:e<s.heap.objs.size:=Heap.lt_size h1
  have hfresh:H s.heap.objs.size=none:=I.hok.fresh (Nat.le_refl _)
  refine wpAny_pyNext_enum_item h1 h2 p.isList (x:=u) (by simpa using hu) hne fun h' hout hit' htup hsz hk=>?_
  refine⟨_,rfl,wpAny_letOwnedTupleGo_enum hout fun h3 hen hsb=>?_⟩
  replace hsb:Heap.SameBut e h' h3:=hsb
  have kk:∀ b o,b≠e->b≠it->s.heap.get? b=some o->h3.get? b=some o:=fun b o n1 n2 z=>(hsb.2 b n1).trans (hk b o n1 n2 z)
  have ht3:h3.get? s.heap.objs.size=some { cls:=.type "tuple",data:=.seq #[.int i s.toks,u] }:=(hsb.2 _ (Nat.ne_of_gt lte)).trans htup
  have hi3:h3.IsListIter it a (i+1):=hit'.at fun o z=>(hsb.2 it hne.symm).trans z
  have nch:∀ b,b ∉ [e,it]->b≠e/\b≠it:=fun b hb=>by simpa using hb
  have ntr:∀ b v,H b=some v->b≠e/\b≠it:=fun b v z=>⟨Al z fe.1,Al z fi.1⟩
  have nsz:∀ b v,H b=some v->b≠s.heap.objs.size:=fun b v z=>Al z hfresh
  refine⟨.ref s.heap.objs.size,upd H s.heap.objs.size (.tup [.int i,x]),?_,rfl,⟨s.heap.objs.size,x,hfresh,rfl,rfl,fun ys hy=>by rw [I.list_inj hy hq];exact hx⟩,⟨⟨_,hen⟩,hi3⟩,fun b hb=>?_⟩
  . refine Inv.step (s:=s) (h':=h3) (t':=s.toks+1) (H':=upd H s.heap.objs.size (.tup [.int i,x])) I (g':=s.gens) (d':=s.drawn) (ch:=[e,it]) (fun b hb=>?_) (fun b o _ _ hb z _=>kk b o (nch b hb).1 (nch b hb).2 z) (fun b o _ _ hb z _=>⟨o.slots,kk b o (nch b hb).1 (nch b hb).2 z⟩) (fun b o hb z n=>?_) (fun b o hb z=>⟨o,kk b o (nch b hb).1 (nch b hb).2 z⟩)
     (fun b ys z=>by rw [Ae (nsz b _ z)];exact z) (fun b o v z=>by rw [Ae (nsz b _ z)];exact z) (fun b ps z=>⟨#[],by rw [Ae (nsz b _ z),z];simp⟩) (fun m hm=>?_) (fun b v z=>?_) I.bare
    . rcases List.mem_cons.mp hb with rfl | hb
      . exact ⟨fe.2.2.2.1,fe.2.1,fe.2.2.2.2.1,fe.2.2.2.2.2⟩
      . have z:b=it:=by simpa using hb
        subst z
        exact ⟨fi.2.2.2.1,fi.2.1,fi.2.2.2.2.1,fi.2.2.2.2.2⟩
    . rw [Ae (Nat.ne_of_lt (Heap.lt_size z))]
      exact n
    . obtain⟨o,es',ep,ho,r⟩:=hm
      exact ⟨o,es',ep,kk _ o fe.2.1.symm fi.2.1.symm ho,r⟩
    . by_cases hb:b=s.heap.objs.size
      . subst hb
        rw [Ac] at z
        cases z
        exact ⟨(by show (2:Nat)<=sizeLine;decide),[.int i s.toks,u],.cons ⟨_,rfl⟩ (.cons ru .nil),⟨_,ht3,rfl,rfl,_,rfl⟩⟩
      . rw [Ae hb] at z
        refine (I.hok b v z).stay (fun c y hc' q=>?_) (fun c q=>by rw [Ae (nsz c _ q)];exact q) fun c ys q=>by rw [Ae (nsz c _ q)];exact q
        rcases hc' with rfl | hc'
        . exact kk _ _ (ntr _ _ z).1 (ntr _ _ z).2 q
        . exact kk _ _ (ntr _ _ hc').1 (ntr _ _ hc').2 q
  . have lb:b<s.heap.objs.size:=by
     rcases List.mem_cons.mp hb with rfl | hb
     . exact lte
     . have z:b=it:=by simpa using hb
       subst z
       obtain⟨o,z,_⟩:=h2
       exact Heap.lt_size z
    rw [Ae (Nat.ne_of_lt lb)]
    exact (hf b hb).1
 done:=by
  intro X hP hw hK hc i Aa s σ H E I hf st hg
  subst hP hw hK
  obtain⟨⟨old,h1⟩,h2⟩:=st
  obtain⟨xs,hq,hx⟩:=hg
  obtain⟨its,rv,p,hz⟩:=I.list hq
  obtain⟨f0,f1,f2,f3,f4,f5⟩:=hf it (by simp)
  have hl:=rv.length
  exact wpAny_pyNext_enum_end (I.ok.hd hc) h1 h2 p.isList (by simp;omega) fun h' eb=>⟨rfl,I.turned (t':=s.toks) (fun b o hb z=>eb b o hb z) f0 f1 f3 f4 f5⟩
 self:=fun _ _ _ _ _ st h=>by
  obtain⟨⟨old,h1⟩,h2⟩:=st
  exact wpAny_pyIter_enum h1 h
def Bf2 (K:W.Frag) (ta:TA):TI:=fun σ H R=>ta σ H fun vs H1=>∃ a,vs=[.ref a]/\(∃ xs,SqL K H1 a xs)/\R (Ite K a) H1
theorem Qx:bootBuiltins "enumerate"=some (.type "enumerate"):=by decide +kernel
theorem Az5 {X:Cx}{K:W.Frag}{es:List Expr}{x1:Nat}{tpos:Pos}{a:Expr}{ta:TA}{p pos:Pos} (hg:Gl X "enumerate") (hm:X.mg "enumerate"=none) (ha:PA X [a] ta) (hK:X.K=K:=by rfl) (hs:starEach [a] X.env=[(false,eval a X.env)]:=by rfl):PI X (.Tuple es x1 tpos) (.Call (.Name "enumerate" p) [a] [] pos) (Bf2 K ta):=by
 subst hK
 intro Aa s σ H R I h
 refine Call_ (N5 I hg hm Qx (PyProof.Rows.callWith_type1 (thn (ha pos Aa s σ H _ I h) fun us s1 ⟨vs,H1,I1,r1,q1⟩=>?_) hs rfl))
 obtain⟨l,e,⟨xs,hq⟩,q⟩:=q1
 subst e
 cases r1 with
 | cons r rr =>
   cases rr
   cases r
   obtain⟨its,rv,pl,hz⟩:=I1.list hq
   refine call_enumerate_list pl.isList fun h' hen hit hsz hk=>?_
   refine wpAny_pyIter_enum hen ⟨s1.heap.objs.size+1,[s1.heap.objs.size+1,s1.heap.objs.size],_,_,H1,rfl,I1.kept (t':=s1.toks) hk,Af2 l _ _ (Nat.succ_ne_self _),⟨⟨_,hen⟩,hit⟩,fun b hb=>?_,q⟩
   have lb:s1.heap.objs.size<=b:=by
    rcases List.mem_cons.mp hb with rfl | hb
    . exact Nat.le_succ _
    . have z:b=s1.heap.objs.size:=by simpa using hb
      rw [z]
      exact Nat.le_refl _
   exact I1.fpOk lb (I1.hok.fresh lb)
section
variable {g:TG}{tc:TT}{te:TE}{D:Addr}{Q:Hp->Prop}{τ:St}{H:Hp}
theorem Ao0 {K:W.Frag}{a:Addr}{xs:List V} (Pv:Nat->List V->St->Hp->Prop) (h0:Pv 0 [] τ H) (hl:∀ i ys τ H,i<=xs.length->Pv i ys τ H->SqL K H a xs)
 (hs:∀ i x ys τ H p,xs[i]?=some x->Pv i ys τ H->H p=none->g (.ref p) τ (upd H p (.tup [.int i,x])) fun τ2 H2=>tc τ2 H2 fun b H3=>if b=true then te τ2 H3 fun y H4=>H4 D=some (.lst ys)/\ys.length<sizeLine/\Pv (i+1) (ys++[y]) τ2 (upd H4 D (.lst (ys++[y]))) else Pv (i+1) ys τ2 H3)
 (hd:∀ ys τ H,Pv xs.length ys τ H->Q H):RunC (Ite K a) g tc te D Q τ H:=by
 refine⟨fun i m ys τ H=>m=xs.length-i/\i<=xs.length/\Pv i ys τ H,⟨xs.length,by simp,Nat.zero_le _,h0⟩,?_⟩
 rintro i m ys τ H ⟨rfl,hi,pp⟩
 have q:=hl i ys τ H hi pp
 by_cases hlt:i<xs.length
 . refine .inr ⟨⟨xs,xs[i],q,by simp [hlt]⟩,Pv (i+1),fun ys' τ' H' p'=>⟨xs.length-(i+1),by omega,rfl,hlt,p'⟩,fun x H' y=>?_⟩
   obtain⟨p,v,hp,rfl,rfl,y⟩:=y
   exact hs i v ys τ _ p (y xs q) pp hp
 . have e:i=xs.length:=by omega
   subst e
   exact .inl ⟨⟨xs,q,Nat.le_refl _⟩,hd ys τ H pp⟩
end
end L2
namespace L2
open PySem PySem.Spec PyProof.Rows
theorem Inv.turnedN {X:Cx}{Aa:List (Addr × Obj)}{σ:St}{H:Hp}{s:Shared}{h':Heap}{t':Nat}{fp:List Addr} (I:Inv X Aa σ H s) (k:∀ b o,b ∉ fp->s.heap.get? b=some o->h'.get? b=some o) (hf:∀ b∈fp,FpOk X Aa H b) :
 Inv X Aa σ H { s with heap:=h',toks:=t' }:=by
 have ntr:∀ c o,H c=some o->c ∉ fp:=fun c o e hm=>by rw [(hf c hm).1] at e;cases e
 refine I.step (g':=s.gens) (d':=s.drawn) (ch:=fp) (fun b hb=>?_) (fun b o _ _ hc e _=>k b o hc e) (fun b o _ _ hc e _=>⟨o.slots,k b o hc e⟩) (fun _ _ _ _ n=>n)
  (fun b o hc e=>⟨o,k b o hc e⟩) (fun _ _ e=>e) (fun _ _ _ e=>e) (fun b ps e=>⟨#[],by rw [e];simp⟩) (fun m hm=>?_) (fun b u e=>?_) I.bare
 . have f:=hf b hb
   exact ⟨f.2.2.2.1,f.2.1,f.2.2.2.2.1,f.2.2.2.2.2⟩
 . obtain⟨o,es',ep,ho,r⟩:=hm
   exact ⟨o,es',ep,k _ o (fun z=>(hf _ z).2.1 rfl) ho,r⟩
 . refine (I.hok b u e).stay (fun c y hc' q=>?_) (fun c q=>q) fun c ys q=>q
   rcases hc' with rfl | hc'
   . exact k _ _ (ntr _ _ e) q
   . exact k _ _ (ntr _ _ hc') q
section
variable {g:TG}{tc:TT}{te:TE}{D:Addr}{Q:Hp->Prop}{τ:St}{H:Hp}
end
theorem op_mulX {X:Cx}:OpR X (binaryOp .Mult) (rI IntMulOk fun i j=>.int (i*j)):=opI fun _ _ _ _ _ _ _ hc q=>mul_int q hc
theorem Wt {i j:Int} (h1:-(2 ^ 64)<i) (h2:i<2 ^ 64):IntMulOk i j:=CMul.ok (.inl ⟨h1,h2⟩)
theorem Ai7 {i j:Int} (h1:-(2 ^ 64)<j) (h2:j<2 ^ 64):IntMulOk i j:=CMul.ok (.inr ⟨h1,h2⟩)
end L2
namespace L2
open PySem PySem.W PySem.Calls PyProof.Rows
end L2
namespace L2
open PySem PySem.Spec PyProof.Rows
section
variable {X:Cx}{Aa:List (Addr × Obj)}{σ:St}{H:Hp}{s:Shared}{a:Addr}{kvs:List (Key × V)}
theorem Inv.freeze (I:Inv X Aa σ H s) (e:H a=some (.dK kvs)):∃ o,Inv X Aa σ (upd H a (.frz o (.dK kvs))) s:=by
 obtain⟨z,y,vs,r,o,es,ep,ho,c⟩:=id (I.hok a _ e)
 refine⟨o,?_⟩
 have ne:∀ b u,H b=some u->u≠.dK kvs->b≠a:=fun b u q n z=>by rw [z,e] at q;exact n (Option.some.inj q).symm
 have up:∀ b u,H b=some u->u≠.dK kvs->upd H a (.frz o (.dK kvs)) b=some u:=fun b u q n=>by rw [Ae (ne b u q n)];exact q
 refine I.step (g':=s.gens) (t':=s.toks) (d':=s.drawn) (h':=s.heap) (H':=upd H a (.frz o (.dK kvs))) (ch:=[]) (fun _ q=>nomatch q) (fun b ob _ _ _ q _=>q) (fun b ob _ _ _ q _=>⟨ob.slots,q⟩) (fun b ob _ q n=>by rw [Ae (fun z=>by rw [z,e] at n;cases n)];exact n) (fun b ob _ q=>⟨ob,q⟩)
  (fun b xs q=>up b _ q (by intro z;cases z)) (fun b ob u q=>up b _ q (by intro z;cases z)) (fun b ps q=>⟨#[],by rw [up b _ q (by intro z;cases z)];simp⟩) (fun m q=>q) (fun b u q=>?_) I.bare
 by_cases hb:b=a
 . subst hb
   rw [Ac] at q
   cases q
   exact ⟨ho,(I.hok b _ e).stay (fun _ _ _ q=>q) (fun c q=>up c _ q (by intro z;cases z)) fun c xs q=>up c _ q (by intro z;cases z)⟩
 . rw [Ae hb] at q
   exact (I.hok b u q).stay (fun _ _ _ q=>q) (fun c q=>up c _ q (by intro z;cases z)) fun c xs q=>up c _ q (by intro z;cases z)
theorem Inv.thaw {o:Obj} (I:Inv X Aa σ H s) (e:H a=some (.frz o (.dK kvs))) (hb:∀ ob u,X.H₀ a≠some (.frz ob u)):Inv X Aa σ (upd H a (.dK kvs)) s:=by
 have ne:∀ b u,H b=some u->u≠.frz o (.dK kvs)->b≠a:=fun b u q n z=>by rw [z,e] at q;exact n (Option.some.inj q).symm
 have up:∀ b u,H b=some u->u≠.frz o (.dK kvs)->upd H a (.dK kvs) b=some u:=fun b u q n=>by rw [Ae (ne b u q n)];exact q
 have no:∀ b,H b=none->upd H a (.dK kvs) b=none:=fun b n=>by rw [Ae (fun z=>by rw [z,e] at n;cases n)];exact n
 refine⟨I.ok,I.os,I.bare,⟨I.base.keep,I.base.slot,fun b ob q n x=>no b (I.base.free b ob q n x),I.base.there,fun b xs q=>up b _ (I.base.tups b xs q) (by intro z;cases z),fun b ob u q=>?_,fun b ps q=>?_⟩,I.loc,I.cell,no _ I.free,fun x c q=>no _ (I.freeC x c q),fun p hp=>?_,fun b u q=>?_,I.len⟩
 . have hne:b≠a:=fun z=>hb ob u (z▸q)
   rw [Ae hne]
   exact I.base.frzs b ob u q
 . obtain⟨m,q'⟩:=I.base.tbls b ps q
   exact ⟨m,up b _ q' (by intro z;cases z)⟩
 . obtain⟨p1,p2,p3⟩:=I.pin p hp
   exact ⟨p1,no _ p2,p3⟩
 . by_cases hba:b=a
   . subst hba
     rw [Ac] at q
     cases q
     obtain⟨_,q'⟩:=I.hok b _ e
     exact q'.stay (fun _ _ _ q=>q) (fun c q=>up c _ q (by intro z;cases z)) fun c xs q=>up c _ q (by intro z;cases z)
   . rw [Ae hba] at q
     exact (I.hok b u q).stay (fun _ _ _ q=>q) (fun c q=>up c _ q (by intro z;cases z)) fun c xs q=>up c _ q (by intro z;cases z)
theorem Inv.notfrz (I:Inv X Aa σ H s) (e:H a=some (.dK kvs)):∀ ob u,X.H₀ a≠some (.frz ob u):=fun ob u q=>by
 have:=I.base.frzs a ob u q
 rw [e] at this
 cases this
theorem Inv.nodupK (I:Inv X Aa σ H s) (e:Rd H a (.dK kvs)):(kvs.map (·.1)).Nodup:=by
 obtain⟨z,hd,vs,rel,o,es,ep,_,_,_,_,_,hn⟩:=Qf I.hok e
 rw [rel.keys]
 exact hn
end
def tFrz (t:TE):TE:=fun σ H Q=>t σ H Q\/∃ (a:Addr) (kvs:List (Key × V)),H a=some (.dK kvs)/\((kvs.map (·.1)).Nodup->∀ o:Obj,t σ (upd H a (.frz o (.dK kvs))) fun v H'=>H' a=some (.frz o (.dK kvs))/\Q v (upd H' a (.dK kvs)))
def sFrz (t:TS):TS:=fun D σ H=>t D σ H\/∃ (a:Addr) (kvs:List (Key × V)),H a=some (.dK kvs)/\((kvs.map (·.1)).Nodup->∀ o:Obj,t ⟨fun σ' H'=>H' a=some (.frz o (.dK kvs))/\D.nx σ' (upd H' a (.dK kvs)),fun v H'=>H' a=some (.frz o (.dK kvs))/\D.rt v (upd H' a (.dK kvs)),
 fun σ' H'=>H' a=some (.frz o (.dK kvs))/\D.bk σ' (upd H' a (.dK kvs)),fun σ' H'=>H' a=some (.frz o (.dK kvs))/\D.ct σ' (upd H' a (.dK kvs))⟩ σ (upd H a (.frz o (.dK kvs))))
theorem l9 {X:Cx}{e:Expr}{t:TE} (h:PE X e t):PE X e (tFrz t):=by
 intro Aa s σ H Q I hw
 rcases hw with hw|⟨a,kvs,ea,hw⟩
 . exact h Aa s σ H Q I hw
 . obtain⟨o,I'⟩:=I.freeze ea
   have hb:=I.notfrz ea
   refine thn (h Aa s σ _ _ I' (hw (I.nodupK (.inl ea)) o)) fun u s' ⟨v,H',I2,r,e2,q⟩=>⟨v,_,I2.thaw e2 hb,r,q⟩
theorem Pd {X:Cx}{st:Stmt}{t:TS} (h:PS X st t):PS X st (sFrz t):=by
 intro Aa s σ H D I hw
 rcases hw with hw|⟨a,kvs,ea,hw⟩
 . exact h Aa s σ H D I hw
 . obtain⟨o,I'⟩:=I.freeze ea
   have hb:=I.notfrz ea
   refine thn (h Aa s σ _ _ I' (hw (I.nodupK (.inl ea)) o)) fun f s' hq=>?_
   cases f with
   | next=>obtain⟨σ',H',I2,e2,q⟩:=hq;exact ⟨σ',_,I2.thaw e2 hb,q⟩
   | brk=>obtain⟨σ',H',I2,e2,q⟩:=hq;exact ⟨σ',_,I2.thaw e2 hb,q⟩
   | cont=>obtain⟨σ',H',I2,e2,q⟩:=hq;exact ⟨σ',_,I2.thaw e2 hb,q⟩
   | ret u=>obtain⟨v,σ',H',I2,r,e2,q⟩:=hq;exact ⟨v,σ',_,I2.thaw e2 hb,r,q⟩
theorem Ix {X:Cx}{Aa:List (Addr × Obj)}{σ:St}{H:Hp}{s:Shared}{a:Addr}{kvs:List (Key × V)}{o:Obj} (I:Inv X Aa σ H s) (e:H a=some (.frz o (.dK kvs))) :
 s.heap.get? a=some o/\(a==sysModules)=false/\kvs.length<=sizeLine/\∃ vs es ep,KV kvs vs/\o.data=.dict es ep/\es.size=kvs.length/\o.ExactDict/\s.heap.DictAt (mixKind X.prog X.w) a vs ep:=by
 obtain⟨ho,z,y,vs,r,o',es,ep,ho',ex,hd,hk,hp,hn⟩:=I.hok a _ e
 rw [ho] at ho'
 cases ho'
 refine⟨ho,y,z,vs,es,ep,r,hd,?_,ex,⟨o,es,ho,ex,hd,hk,hp,hn⟩⟩
 rw [r.length,←hp.length]
 simp
theorem KV.getV:∀{kvs:List (Key × V)}{vs:List (Key × Value)}{i:Nat}{k:Key}{v:V},KV kvs vs->kvs[i]?=some (k,v)->∃ u,vs[i]?=some (k,u)/\RelV v u
 | _,_,i,k,v,.nil,e=>by simp at e
 | _,_,0,k,v,.cons (b:=q) r t,e=>by
   simp only [List.getElem?_cons_zero,Option.some.injEq] at e
   subst e
   obtain⟨k',u⟩:=q
   have e1:k=k':=r.1
   subst e1
   exact ⟨u,by simp,r.2⟩
 | _,_,i+1,k,v,.cons r t,e=>by
   obtain⟨u,e1,e2⟩:=KV.getV (i:=i) t (by simpa using e)
   exact ⟨u,by simpa using e1,e2⟩
theorem Ak6 {P:Program}{w:World}{k:Key}{u:Value} (h:(mixKind P w).is k u=true):RelV (kV k) u:=by
 rcases Bq h with ⟨i,t,rfl,rfl⟩|⟨x,t,rfl,rfl⟩
 . exact ⟨t,rfl⟩
 . exact ⟨t,rfl⟩
def Itm (d:Addr) (o:Obj):It :=
 ⟨fun i H=>∃ kvs k v,H d=some (.frz o (.dK kvs))/\kvs[i]?=some (k,v),
  fun i H x H'=>∃ p k v,H p=none/\x=.ref p/\H'=upd H p (.tup [kV k,v])/\∀ kvs,H d=some (.frz o (.dK kvs))->kvs[i]?=some (k,v),
  fun i H=>∃ kvs,H d=some (.frz o (.dK kvs))/\kvs.length<=i⟩
theorem Ig {prog:Program}{w:World}{A:Around}{E:Value->Shared->Prop}{s:Shared}{it d:Addr}{i n ep:Nat}{ok ov:Value}{Q:Value->Shared->Prop} (hit:IsItemIter s.heap it d i n ep ok ov) (h:Q (.ref it) s):wpAny (model prog w) A (pyIter (.ref it)) Q E s:=by
 have hT:s.TypeIs (.ref it) "dict_itemiterator":=⟨_,hit,rfl⟩
 refine wpAny_pyIter_slot hT PySem.F.slot_dict_itemiterator_iter (wpAny_call_entry PySem.F.slot_dict_itemiterator_iter hT (entryFor_alias (id':="dict_keyiterator.__iter__") (by kernel_rfl) rfl (by decide +kernel) (by kernel_rfl):entryFor table "dict_itemiterator.__iter__"=some Builtin.«dict_keyiterator.__iter__») ?_ (PySem.F.args_dict_itemiterator_iter_1 _))
 show wpAny _ _ (ret (.ref it)) _ _ s
 exact wpAny_pure ⟨_,rfl,"dict_itemiterator",_,hT,PySem.F.slot_dict_itemiterator_next.lookup,h⟩
theorem Sm {P:Program}{w:World}{K:W.Frag}{tes:List Expr}{x1:Nat}{tpos:Pos} (d it:Addr) (o:Obj) {es:Array DictEntry}{ep:Nat} (hd:o.data=.dict es ep) :
 Turn P w K (.Tuple tes x1 tpos) (Itm d o) [it] it (fun i h=>∃ ok ov,IsItemIter h it d i es.size ep ok ov) where
 mem:=by simp
 obj:=fun i h st b hb=>by
  obtain⟨ok,ov,h1⟩:=st
  have z:b=it:=by simpa using hb
  subst z
  exact ⟨_,h1,fun v q=>by cases (show Data.fields _=Data.cell v from q)⟩
 keep:=fun i h h' st k=>by
  obtain⟨ok,ov,h1⟩:=st
  exact ⟨ok,ov,k it (by simp) _ h1⟩
 item:=by
  intro X hP hw hK hc i Aa s σ H E I hf st hg
  subst hP hw hK
  obtain⟨ok,ov,hit⟩:=st
  obtain⟨kvs,k,v,hz,hx⟩:=hg
  obtain⟨ho,hsys,hl,vs,es',ep',rel,hd',hsz,ex,hm⟩:=Ix I hz
  rw [hd] at hd'
  cases hd'
  obtain⟨u,hu,ru⟩:=rel.getV hx
  have hn:es.size=vs.length:=by rw [hsz,rel.length]
  have fi:=hf it (by simp)
  have lti:it<s.heap.objs.size:=Heap.lt_size hit
  have hfresh:H s.heap.objs.size=none:=I.hok.fresh (Nat.le_refl _)
  rw [hn] at hit
  refine wpAny_pyNext_items_item hit hm hu fun key h' hkey hout htup hsz' hk=>?_
  refine⟨_,rfl,wpAny_letOwnedTupleGo_items hout fun h3 hen hsb=>?_⟩
  replace hsb:Heap.SameBut it h' h3:=hsb
  have kk:∀ b ob,b ∉ [it]->s.heap.get? b=some ob->h3.get? b=some ob:=fun b ob n z=>by
   have n1:b≠it:=by simpa using n
   exact (hsb.2 b n1).trans (hk b ob n1 z)
  have ht3:h3.get? s.heap.objs.size=some { cls:=.type "tuple",data:=.seq #[key,u] }:=(hsb.2 _ (Nat.ne_of_gt lti)).trans htup
  have ntr:∀ c ob,H c=some ob->c ∉ [it]:=fun c ob e hm=>by rw [(hf c hm).1] at e;cases e
  have nsz:∀ b ob,H b=some ob->b≠s.heap.objs.size:=fun b ob z=>Al z hfresh
  refine⟨.ref s.heap.objs.size,upd H s.heap.objs.size (.tup [kV k,v]),?_,rfl,⟨s.heap.objs.size,k,v,hfresh,rfl,rfl,fun kvs' q=>by rw [hz] at q;cases q;exact hx⟩,⟨_,_,by rw [hn];exact hen⟩,fun b hb=>?_⟩
  . refine Inv.step (s:=s) (h':=h3) (t':=s.toks) (H':=upd H s.heap.objs.size (.tup [kV k,v])) I (g':=s.gens) (d':=s.drawn) (ch:=[it]) (fun b hb=>?_) (fun b ob _ _ hb z _=>kk b ob hb z) (fun b ob _ _ hb z _=>⟨ob.slots,kk b ob hb z⟩) (fun b ob hb z n=>?_) (fun b ob hb z=>⟨ob,kk b ob hb z⟩)
     (fun b ys z=>by rw [Ae (nsz b _ z)];exact z) (fun b ob w' z=>by rw [Ae (nsz b _ z)];exact z) (fun b ps z=>⟨#[],by rw [Ae (nsz b _ z),z];simp⟩) (fun m hm=>?_) (fun b w' z=>?_) I.bare
    . have f:=hf b hb
      exact ⟨f.2.2.2.1,f.2.1,f.2.2.2.2.1,f.2.2.2.2.2⟩
    . rw [Ae (Nat.ne_of_lt (Heap.lt_size z))]
      exact n
    . obtain⟨ob,es',ep',hob,r⟩:=hm
      exact ⟨ob,es',ep',kk _ ob (fun q=>(hf _ q).2.1 rfl) hob,r⟩
    . by_cases hb:b=s.heap.objs.size
      . subst hb
        rw [Ac] at z
        cases z
        exact ⟨(by show (2:Nat)<=sizeLine;decide),[key,u],.cons (Ak6 hkey) (.cons ru .nil),⟨_,ht3,rfl,rfl,_,rfl⟩⟩
      . rw [Ae hb] at z
        refine (I.hok b w' z).stay (fun c y hc' q=>?_) (fun c q=>by rw [Ae (nsz c _ q)];exact q) fun c ys q=>by rw [Ae (nsz c _ q)];exact q
        rcases hc' with rfl | hc'
        . exact kk _ _ (ntr _ _ z) q
        . exact kk _ _ (ntr _ _ hc') q
  . have z:b=it:=by simpa using hb
    subst z
    rw [Ae (Nat.ne_of_lt lti)]
    exact (hf b hb).1
 done:=by
  intro X hP hw hK hc i Aa s σ H E I hf st hg
  subst hP hw hK
  obtain⟨ok,ov,hit⟩:=st
  obtain⟨kvs,hz,hx⟩:=hg
  obtain⟨ho,hsys,hl,vs,es',ep',rel,hd',hsz,ex,hm⟩:=Ix I hz
  rw [hd] at hd'
  cases hd'
  have hn:es.size=vs.length:=by rw [hsz,rel.length]
  have hl2:=rel.length
  rw [hn] at hit
  exact wpAny_pyNext_items_end (I.ok.hd hc) hit hm (by simp;omega) fun h' eb=>⟨rfl,I.turnedN (t':=s.toks) (fp:=[it]) (fun b ob hb z=>eb b ob (by simpa using hb) z) hf⟩
 self:=fun _ _ _ _ _ st h=>by
  obtain⟨ok,ov,hit⟩:=st
  exact Ig hit h
def Bb1 (td:TE):TI:=fun σ H R=>td σ H fun x H1=>∃ d o kvs,x=.ref d/\H1 d=some (.frz o (.dK kvs))/\R (Itm d o) H1
theorem Os {X:Cx}{tes:List Expr}{x1:Nat}{tpos apos cpos:Pos}{e:Expr}{td:TE} (he:PE X e td)
 (hbase:attributeBase e "items" X.env (eval e X.env)=eval e X.env:=by rfl) (hline:(apos.endLine==cpos.line)=true:=by rfl):PI X (.Tuple tes x1 tpos) (.Call (.Attribute e "items" apos) [] [] cpos) (Bb1 td):=by
 intro Aa s σ H R I h
 refine wpAny_Call_method0_late hbase hline (thn (he Aa s σ H _ I h) fun v s1 ⟨x,H1,I1,r1,d,o,kvs,ex,hz,q⟩=>?_)
 subst ex
 obtain rfl:v=Value.ref d:=r1
 obtain⟨ho,hsys,hl,vs,es,ep,rel,hd,hsz,exd,hm⟩:=Ix I1 hz
 refine⟨"dict","dict.items",PySem.F.plainAttrs_dict,PySem.F.slot_dict_items,PySem.F.type_dict_items,⟨o,ho,exd.1⟩,fun b e=>by cases e;exact ⟨o,ho,exd.2.1⟩,Calls.callWith_builtin rfl (PySem.evalArgs_none ?_)⟩
 refine call_meetsIn PySem.F.slot_dict_items hm.dictOf.typeIs PySem.F.entry_dict_items (PySem.F.args_dict_items_1 _) (meets_dict_items (mixKind X.prog X.w) d hsys) ⟨⟨vs,hm.dictOf⟩,?_⟩
 have I2:Inv X Aa σ H1 { s1 with heap:=s1.heap.push { cls:=.type "dict_items",data:=.fields #[.ref d] } }:=I1.kept (t':=s1.toks) fun b ob z=>Heap.get?_push_of_some _ z
 have hm2:=hm.push { cls:=.type "dict_items",data:=.fields #[.ref d] }
 refine wpAny_pyIter_items (s:={ s1 with heap:=s1.heap.push { cls:=.type "dict_items",data:=.fields #[.ref d] } }) (v:=s1.heap.objs.size) (d:=d) ⟨_,Heap.get?_push_size _ rfl,rfl,rfl⟩ hm2 ?_
 have hsz2:(s1.heap.push { cls:=.type "dict_items",data:=.fields #[.ref d] }).objs.size=s1.heap.objs.size+1:=Heap.size_push ..
 refine⟨_,[_],_,Itm d o,H1,rfl,I2.kept (t':=s1.toks) fun b ob z=>Heap.get?_push_of_some _ z,Sm d _ o hd,⟨.none,.none,?_⟩,fun b hb=>?_,q⟩
 . rw [hsz,rel.length]
   exact Heap.get?_push_size _ rfl
 . have z:b=(s1.heap.push { cls:=.type "dict_items",data:=.fields #[.ref d] }).objs.size:=by simpa using hb
   subst z
   exact I2.fpOk (Nat.le_refl _) (I2.hok.fresh (Nat.le_refl _))
def Itk (d:Addr) (o:Obj):It :=
 ⟨fun i H=>∃ kvs k v,H d=some (.frz o (.dK kvs))/\kvs[i]?=some (k,v),
  fun i H x H'=>H'=H/\∃ k v,x=kV k/\∀ kvs,H d=some (.frz o (.dK kvs))->kvs[i]?=some (k,v),
  fun i H=>∃ kvs,H d=some (.frz o (.dK kvs))/\kvs.length<=i⟩
theorem V1 {P:Program}{w:World}{K:W.Frag}{tg:Expr} (d it:Addr) (o:Obj) {es:Array DictEntry}{ep:Nat} (hd:o.data=.dict es ep) :
 Turn P w K tg (Itk d o) [it] it (fun i h=>h.IsKeyIter it d i es.size ep) where
 mem:=by simp
 obj:=fun i h st b hb=>by
  obtain⟨oi,h1,c1,d1⟩:=st
  have z:b=it:=by simpa using hb
  subst z
  exact ⟨oi,h1,fun v q=>by rw [d1] at q;cases q⟩
 keep:=fun i h h' st k=>st.at fun ob z=>k it (by simp) ob z
 item:=by
  intro X hP hw hK hc i Aa s σ H E I hf st hg
  subst hP hw hK
  obtain⟨kvs,k,v,hz,hx⟩:=hg
  obtain⟨ho,hsys,hl,vs,es',ep',rel,hd',hsz,ex,hm⟩:=Ix I hz
  rw [hd] at hd'
  cases hd'
  obtain⟨u,hu,ru⟩:=rel.getV hx
  have hn:es.size=vs.length:=by rw [hsz,rel.length]
  rw [hn] at st
  refine wpAny_pyNext_dict_item st hm hu fun key h' hkey hit' hs'=>?_
  refine⟨_,rfl,?_⟩
  obtain⟨oi,h1,c1,d1⟩:=id hit'
  refine Ac1 h1 c1 d1 (by decide) ⟨kV k,H,?_,Ak6 hkey,⟨rfl,k,v,rfl,fun kvs' q=>by rw [hz] at q;cases q;exact hx⟩,by rw [hn];exact hit',fun b hb=>(hf b hb).1⟩
  exact I.turnedN (t':=s.toks) (fp:=[it]) (fun b ob hb z=>(hs'.2 b (by simpa using hb)).trans z) hf
 done:=by
  intro X hP hw hK hc i Aa s σ H E I hf st hg
  subst hP hw hK
  obtain⟨kvs,hz,hx⟩:=hg
  obtain⟨ho,hsys,hl,vs,es',ep',rel,hd',hsz,ex,hm⟩:=Ix I hz
  rw [hd] at hd'
  cases hd'
  have hn:es.size=vs.length:=by rw [hsz,rel.length]
  have hl2:=rel.length
  rw [hn] at st
  exact wpAny_pyNext_dict_end (I.ok.hd hc) st hm (by simp;omega) fun h' eb=>⟨rfl,I.turnedN (t':=s.toks) (fp:=[it]) (fun b ob hb z=>eb b ob (by simpa using hb) z) hf⟩
 self:=fun _ _ _ _ _ st h=>wpAny_pyIter_keyiter st h
def Bf1 (td:TE):TI:=fun σ H R=>td σ H fun x H1=>∃ d o kvs,x=.ref d/\H1 d=some (.frz o (.dK kvs))/\R (Itk d o) H1
theorem Uc {X:Cx}{tg e:Expr}{td:TE} (he:PE X e td):PI X tg e (Bf1 td):=by
 intro Aa s σ H R I h
 refine thn (he Aa s σ H _ I h) fun v s1 ⟨x,H1,I1,r1,d,o,kvs,ex,hz,q⟩=>?_
 subst ex
 obtain rfl:v=Value.ref d:=r1
 obtain⟨ho,hsys,hl,vs,es,ep,rel,hd,hsz,exd,hm⟩:=Ix I1 hz
 refine wpAny_pyIter_dict hsys hm ?_
 refine⟨_,[_],_,Itk d o,H1,rfl,I1.kept (t':=s1.toks) fun b ob z=>Heap.get?_push_of_some _ z,V1 d _ o hd,?_,fun b hb=>?_,q⟩
 . rw [hsz,rel.length]
   exact ⟨_,Heap.get?_push_size _ rfl,rfl,rfl⟩
 . have z:b=s1.heap.objs.size:=by simpa using hb
   subst z
   exact I1.fpOk (Nat.le_refl _) (I1.hok.fresh (Nat.le_refl _))
section
variable {g:TG}{tc:TT}{te:TE}{D:Addr}{Q:Hp->Prop}{τ:St}{H:Hp}
theorem Nr {d:Addr}{o:Obj}{kvs:List (Key × V)} (Pv:Nat->List V->St->Hp->Prop) (h0:Pv 0 [] τ H) (hl:∀ i zs τ H,i<=kvs.length->Pv i zs τ H->H d=some (.frz o (.dK kvs)))
 (hs:∀ i k v zs τ H p,kvs[i]?=some (k,v)->Pv i zs τ H->H p=none->g (.ref p) τ (upd H p (.tup [kV k,v])) fun τ2 H2=>tc τ2 H2 fun b H3=>if b=true then te τ2 H3 fun y H4=>H4 D=some (.lst zs)/\zs.length<sizeLine/\Pv (i+1) (zs++[y]) τ2 (upd H4 D (.lst (zs++[y]))) else Pv (i+1) zs τ2 H3)
 (hd:∀ zs τ H,Pv kvs.length zs τ H->Q H):RunC (Itm d o) g tc te D Q τ H:=by
 refine⟨fun i m zs τ H=>m=kvs.length-i/\i<=kvs.length/\Pv i zs τ H,⟨kvs.length,by simp,Nat.zero_le _,h0⟩,?_⟩
 rintro i m zs τ H ⟨rfl,hi,pp⟩
 have q:=hl i zs τ H hi pp
 by_cases hlt:i<kvs.length
 . refine .inr ⟨⟨kvs,kvs[i].1,kvs[i].2,q,by simp [hlt]⟩,Pv (i+1),fun ys' τ' H' p'=>⟨kvs.length-(i+1),by omega,rfl,hlt,p'⟩,fun x H' y=>?_⟩
   obtain⟨p,k,v,hp,rfl,rfl,y⟩:=y
   exact hs i k v zs τ _ p (y kvs q) pp hp
 . have e:i=kvs.length:=by omega
   subst e
   exact .inl ⟨⟨kvs,q,Nat.le_refl _⟩,hd zs τ H pp⟩
theorem An9 {d:Addr}{o:Obj}{kvs:List (Key × V)} (Pv:Nat->List V->St->Hp->Prop) (h0:Pv 0 [] τ H) (hl:∀ i zs τ H,i<=kvs.length->Pv i zs τ H->H d=some (.frz o (.dK kvs)))
 (hs:∀ i k v zs τ H,kvs[i]?=some (k,v)->Pv i zs τ H->g (kV k) τ H fun τ2 H2=>tc τ2 H2 fun b H3=>if b=true then te τ2 H3 fun y H4=>H4 D=some (.lst zs)/\zs.length<sizeLine/\Pv (i+1) (zs++[y]) τ2 (upd H4 D (.lst (zs++[y]))) else Pv (i+1) zs τ2 H3)
 (hd:∀ zs τ H,Pv kvs.length zs τ H->Q H):RunC (Itk d o) g tc te D Q τ H:=by
 refine⟨fun i m zs τ H=>m=kvs.length-i/\i<=kvs.length/\Pv i zs τ H,⟨kvs.length,by simp,Nat.zero_le _,h0⟩,?_⟩
 rintro i m zs τ H ⟨rfl,hi,pp⟩
 have q:=hl i zs τ H hi pp
 by_cases hlt:i<kvs.length
 . refine .inr ⟨⟨kvs,kvs[i].1,kvs[i].2,q,by simp [hlt]⟩,Pv (i+1),fun ys' τ' H' p'=>⟨kvs.length-(i+1),by omega,rfl,hlt,p'⟩,fun x H' y=>?_⟩
   obtain⟨rfl,k,v,rfl,y⟩:=y
   exact hs i k v zs τ _ (y kvs q) pp
 . have e:i=kvs.length:=by omega
   subst e
   exact .inl ⟨⟨kvs,q,Nat.le_refl _⟩,hd zs τ H pp⟩
theorem W7 {d:Addr}{o:Obj}{kvs:List (Key × V)}{g:TG}{tb:TS}{D:Ends}{σ:St}{H:Hp} (Pv:Nat->St->Hp->Prop) (h0:Pv 0 σ H) (hl:∀ i σ H,i<=kvs.length->Pv i σ H->H d=some (.frz o (.dK kvs)))
 (hs:∀ i k v σ H p,kvs[i]?=some (k,v)->Pv i σ H->H p=none->g (.ref p) σ (upd H p (.tup [kV k,v])) fun σ2 H2=>tb { D with nx:=Pv (i+1),ct:=Pv (i+1),bk:=D.nx } σ2 H2) (hd:∀ σ H,Pv kvs.length σ H->D.nx σ H) :
 ∃ W:Nat->Nat->St->Hp->Prop,(∃ m,W 0 m σ H)/\∀ i m σ H,W i m σ H →
   ((Itm d o).stop i H/\D.nx σ H)\/((Itm d o).go i H/\∃ N:St->Hp->Prop,(∀ σ' H',N σ' H'->∃ m',m'<m/\W (i+1) m' σ' H')/\∀ x H',(Itm d o).yld i H x H'->g x σ H' fun σ2 H2=>tb { D with nx:=N,ct:=N,bk:=D.nx } σ2 H2):=by
 refine⟨fun i m σ H=>m=kvs.length-i/\i<=kvs.length/\Pv i σ H,⟨kvs.length,by simp,Nat.zero_le _,h0⟩,?_⟩
 rintro i m σ H ⟨rfl,hi,pp⟩
 have q:=hl i σ H hi pp
 by_cases hlt:i<kvs.length
 . refine .inr ⟨⟨kvs,kvs[i].1,kvs[i].2,q,by simp [hlt]⟩,Pv (i+1),fun σ' H' p'=>⟨kvs.length-(i+1),by omega,rfl,hlt,p'⟩,fun x H' y=>?_⟩
   obtain⟨p,k,v,hp,rfl,rfl,y⟩:=y
   exact hs i k v σ _ p (y kvs q) pp hp
 . have e:i=kvs.length:=by omega
   subst e
   exact .inl ⟨⟨kvs,q,Nat.le_refl _⟩,hd σ H pp⟩
theorem Ox {d:Addr}{o:Obj}{kvs:List (Key × V)}{g:TG}{tb:TS}{D:Ends}{σ:St}{H:Hp} (Pv:Nat->St->Hp->Prop) (h0:Pv 0 σ H) (hl:∀ i σ H,i<=kvs.length->Pv i σ H->H d=some (.frz o (.dK kvs)))
 (hs:∀ i k v σ H,kvs[i]?=some (k,v)->Pv i σ H->g (kV k) σ H fun σ2 H2=>tb { D with nx:=Pv (i+1),ct:=Pv (i+1),bk:=D.nx } σ2 H2) (hd:∀ σ H,Pv kvs.length σ H->D.nx σ H) :
 ∃ W:Nat->Nat->St->Hp->Prop,(∃ m,W 0 m σ H)/\∀ i m σ H,W i m σ H →
   ((Itk d o).stop i H/\D.nx σ H)\/((Itk d o).go i H/\∃ N:St->Hp->Prop,(∀ σ' H',N σ' H'->∃ m',m'<m/\W (i+1) m' σ' H')/\∀ x H',(Itk d o).yld i H x H'->g x σ H' fun σ2 H2=>tb { D with nx:=N,ct:=N,bk:=D.nx } σ2 H2):=by
 refine⟨fun i m σ H=>m=kvs.length-i/\i<=kvs.length/\Pv i σ H,⟨kvs.length,by simp,Nat.zero_le _,h0⟩,?_⟩
 rintro i m σ H ⟨rfl,hi,pp⟩
 have q:=hl i σ H hi pp
 by_cases hlt:i<kvs.length
 . refine .inr ⟨⟨kvs,kvs[i].1,kvs[i].2,q,by simp [hlt]⟩,Pv (i+1),fun σ' H' p'=>⟨kvs.length-(i+1),by omega,rfl,hlt,p'⟩,fun x H' y=>?_⟩
   obtain⟨rfl,k,v,rfl,y⟩:=y
   exact hs i k v σ _ (y kvs q) pp
 . have e:i=kvs.length:=by omega
   subst e
   exact .inl ⟨⟨kvs,q,Nat.le_refl _⟩,hd σ H pp⟩
end
end L2
namespace L2
open PySem PySem.Spec PyProof.Rows PySem.SeqAt
theorem Gr {ms:List (Int × Int)}:((cK ms).map (·.1)).Nodup↔(ms.map (·.1)).Nodup:=by
 unfold cK List.Nodup
 rw [List.map_map,List.pairwise_map,List.pairwise_map]
 constructor
 . intro h;exact h.imp fun {a b} n z=>n (by simp [z])
 . intro h;exact h.imp fun {a b} n z=>n (by simpa using z)
section
variable {X:Cx}{Aa:List (Addr × Obj)}{σ:St}{H:Hp}{s:Shared}{a:Addr}{ms:List (Int × Int)}
end
section
variable {X:Cx}{n:Nat}{K:W.Frag}
end
end L2
namespace L2
open PySem PySem.Spec PyProof.Rows
theorem Nt {X:Cx}:Du X (.type "dict") (fun xs H Q=>∃ a kvs,xs=[.ref a]/\Rd H a (.dK kvs)/\∀ p,H p=none->Q (.ref p) (upd H p (.dK kvs))):=by
 intro Aa s σ H xs us Q I r h
 obtain⟨a,kvs,rfl,e,q⟩:=h
 obtain⟨u,rfl,rx⟩:=Mc r
 cases rx
 exact Au6 I e fun p s' hp I'=>⟨.ref p,_,I',rfl,q p hp⟩
theorem u1 {n c:Nat} (h:n+8<c):n+1<c:=by omega
def getI (ms:List (Int × Int)) (k:Int):Int:=(Bd ms k).getD 0
def putI (ms:List (Int × Int)) (k v:Int):List (Int × Int):=if (ms.any fun p=>decide (p.1=k))=true then ms.map (fun p=>if p.1=k then (p.1,v) else p) else ms++[(k,v)]
def Oi (ms:List (Int × Int)) (k:Int):List (Int × Int):=ms.filter fun p=>decide (p.1≠k)
theorem Bc3 (ms:List (Int × Int)) (k v:Int):putK (cK ms) (Sum.inl k) (V.int v)=cK (putI ms k v):=by
 unfold putK putI cK
 have e:((ms.map fun p=>((Sum.inl p.1:Key),V.int p.2)).any fun kv=>decide (kv.1=Sum.inl k))=(ms.any fun p=>decide (p.1=k)):=by
  rw [List.any_map]
  congr 1
  funext p
  simp
 rw [e]
 split
 . rw [List.map_map,List.map_map]
   congr 1
   funext p
   simp only [Function.comp]
   by_cases q:p.1=k
   . simp [q]
   . have q':¬(Sum.inl p.1:Key)=Sum.inl k:=fun z=>q (by simpa using z)
     simp [q]
 . simp
theorem Ap2 (ms:List (Int × Int)) (k:Int):Vc (cK ms) (Sum.inl k)=cK (Oi ms k):=by
 unfold Vc Oi cK
 rw [List.filter_map]
 congr 1
 congr 1
 funext p
 simp
theorem Xw (ms:List (Int × Int)) (k:Int):valV (cK ms) (Sum.inl k)=(Bd ms k).map V.int:=by
 unfold Bd cK valV
 rw [List.find?_map,Option.map_map,Option.map_map]
 have e:((fun p:Key × V=>decide (p.1=Sum.inl k)) ∘ fun p:Int × Int=>((Sum.inl p.1:Key),V.int p.2))=fun p:Int × Int=>decide (p.1=k):=by
  funext p
  simp
 rw [e]
 rfl
theorem i4 (ms:List (Int × Int)) (k:Int):((Bd ms k).map V.int).getD (V.int 0)=V.int (getI ms k):=by
 unfold getI
 cases Bd ms k<;>rfl
theorem Bm (p:Int × Int) (ms:List (Int × Int)) (k:Int):Bd (p::ms) k=if p.1=k then some p.2 else Bd ms k:=by
 unfold Bd
 by_cases q:p.1=k
 . rw [List.find?_cons_of_pos (by simpa using q),if_pos q];rfl
 . rw [List.find?_cons_of_neg (by simpa using q),if_neg q]
theorem Pu (ms:List (Int × Int)) (k v j:Int):Bd (putI ms k v) j=if j=k then some v else Bd ms j:=by
 have hs:∀ (ns:List (Int × Int)),Bd (ns.map (fun p=>if p.1=k then (p.1,v) else p)) j=if j=k then (Bd ns j).map (fun _=>v) else Bd ns j:=by
  intro ns
  induction ns with
  | nil=>simp [Bd]
  | cons p ns ih =>
    rw [List.map_cons,Bm,Bm,ih]
    by_cases e1:p.1=k
    . by_cases e2:j=k
      . simp [e1,e2]
      . have e3:¬k=j:=fun z=>e2 z.symm
        simp [e1,e2,e3]
    . by_cases e2:j=k
      . simp [e1,e2]
      . simp [e1,e2]
 have hn:∀ (ns:List (Int × Int)),(ns.any fun p=>decide (p.1=k))=(Bd ns k).isSome:=by
  intro ns
  induction ns with
  | nil=>rfl
  | cons p ns ih =>
    rw [List.any_cons,Bm,ih]
    by_cases e1:p.1=k<;>simp [e1]
 have ha:∀ (ns:List (Int × Int)),Bd (ns++[(k,v)]) j=(Bd ns j).or (if k=j then some v else none):=by
  intro ns
  induction ns with
  | nil=>simp [Bm,Bd]
  | cons p ns ih =>
    rw [List.cons_append,Bm,Bm,ih]
    by_cases e1:p.1=j<;>simp [e1]
 unfold putI
 rw [hn]
 cases q:Bd ms k with
 | some z =>
   simp only [Option.isSome_some,if_true]
   rw [hs]
   by_cases e:j=k
   . subst e;simp [q]
   . simp [e]
 | none =>
   simp only [Option.isSome_none,Bool.false_eq_true,if_false]
   rw [ha]
   by_cases e:j=k
   . subst e;simp [q]
   . have e':¬k=j:=fun z=>e z.symm
     simp [e,e']
theorem Ab3 (ms:List (Int × Int)) (k j:Int):Bd (Oi ms k) j=if j=k then none else Bd ms j:=by
 unfold Oi
 induction ms with
 | nil=>simp [Bd]
 | cons p ms ih =>
   rw [List.filter_cons,Bm]
   by_cases e1:p.1=k
   . rw [if_neg (by simpa using e1),ih]
     by_cases e2:j=k
     . simp [e2]
     . have e3:¬p.1=j:=fun z=>e2 (by rw [←z,e1])
       simp [e2,e3]
   . rw [if_pos (by simpa using e1),Bm,ih]
     by_cases e2:j=k
     . subst e2;simp [e1]
     . simp [e2]
end L2
namespace L2
open PySem PySem.Spec PyProof.Rows
inductive DA where
 | d (d:D) | dic
def RepA (K:W.Frag) (H:Hp) (v:V):DA->Prop
 | .d d=>Rep K H v d
 | .dic=>∃ a kvs,v=.ref a/\Rd H a (.dK kvs)
def isA (n:String):DA->Bool
 | .d d=>isD n d
 | .dic=>n=="dict"
theorem Qv {X:Cx}{K:W.Frag} (hK:X.K=K:=by rfl):Du X (.builtin "isinstance") (fun xs H Q=>∃ x n d,xs=[x,.ty n]/\(n="int"\/n="bool"\/n="str"\/n="tuple"\/n="list"\/n="dict")/\RepA K H x d/\Q (.bl (isA n d)) H):=by
 subst hK
 intro Aa s σ H xs us Q I r h
 obtain⟨x,n,d,e,hn,hx,q⟩:=h
 cases d with
 | d d=>exact K9 Aa s σ H xs us Q I r ⟨x,n,d,e,hn,hx,q⟩
 | dic =>
   subst e
   obtain⟨a,kvs,rfl,hr⟩:=hx
   obtain⟨u,v,rfl,rx,rt⟩:=Vz r
   cases rt
   cases rx
   obtain⟨z,hd,vs,rel,o,es,ep,ho,ex,_⟩:=Qf I.hok hr
   rcases hn with rfl | rfl | rfl | rfl | rfl | rfl
   . exact PySem.IsiPair.dict_int ho ex.1 ⟨.bl false,H,I.tok _,rfl,q⟩
   . exact PySem.IsiPair.dict_bool ho ex.1 ⟨.bl false,H,I.tok _,rfl,q⟩
   . exact PySem.IsiPair.dict_str ho ex.1 ⟨.bl false,H,I.tok _,rfl,q⟩
   . exact PySem.IsiPair.dict_tuple ho ex.1 ⟨.bl false,H,I.tok _,rfl,q⟩
   . exact PySem.IsiPair.dict_list ho ex.1 ⟨.bl false,H,I.tok _,rfl,q⟩
   . exact PySem.IsiPair.dict_dict ho ex.1 ⟨.bl true,H,I,rfl,q⟩
end L2
namespace L2
open PySem PySem.Spec PyProof.Rows
section
variable {P:Program}{w:World}{K:W.Frag}{mg:Str->Option Value}{base:Heap}
end
section
variable {X:Cx}{x:Str}{ps:List Str}{j k:Nat}{sp:Sp}{p pos:Pos}{e:Expr}{es:List Expr}{t:TA}
end
end L2
namespace L2
open PySem PySem.Spec PyProof.Rows
mutual
def toPD:D->PyData
 | .non=>.none
 | .bl b=>.bool b
 | .int i=>.int i
 | .str x=>.str x
 | .tup ds=>.tuple (toPDs ds)
 | .lst ds=>.list (toPDs ds)
def toPDs:List D->List PyData
 | []=>[]
 | d::ds=>toPD d::toPDs ds
end
section
variable {X:Cx}{Aa:List (Addr × Obj)}{σ:St}{H:Hp}{s:Shared}
mutual
theorem Ar0 (I:Inv X Aa σ H s):∀ (d:D) {v:V}{u:Value},Rep X.K H v d->RelV v u->∃ as,Reads s.heap u (toPD d) as
 | .non,v,u,h,r=>by
   cases (show v=.non from h)
   obtain rfl:u=.none:=r
   exact ⟨_,.none⟩
 | .bl b,v,u,h,r=>by
   cases (show v=.bl b from h)
   obtain rfl:u=.bool b:=r
   exact ⟨_,.bool b⟩
 | .int i,v,u,h,r=>by
   cases (show v=.int i from h)
   obtain⟨t,rfl⟩:=r
   exact ⟨_,.int i t⟩
 | .str x,v,u,h,r=>by
   cases (show v=.str x from h)
   obtain⟨t,rfl⟩:=r
   exact ⟨_,.str x t⟩
 | .tup ds,v,u,h,r=>by
   obtain⟨a,vs,rfl,hq,hr⟩:=h
   obtain rfl:u=.ref a:=r
   obtain⟨its,rv,p,hz⟩:=I.tuple hq
   obtain⟨o,ho,hc,n,hd⟩:=(show s.heap.IsTuple a its.toArray from p)
   obtain⟨as,ra⟩:=readsAll_of I ds hr rv
   exact ⟨as,.tuple ho hc hd (by simpa using ra)⟩
 | .lst ds,v,u,h,r=>by
   obtain⟨a,vs,rfl,hq,hr⟩:=h
   obtain rfl:u=.ref a:=r
   obtain⟨its,rv,p,hz⟩:=I.list hq
   obtain⟨o,ho,hc,n,hd⟩:=p.isList
   obtain⟨as,ra⟩:=readsAll_of I ds hr rv
   exact ⟨a::as,.list ho hc hd (by simpa using ra)⟩
theorem readsAll_of (I:Inv X Aa σ H s):∀ (ds:List D) {vs:List V}{us:List Value},Reps X.K H vs ds->Vals vs us->∃ as,ReadsAll s.heap us (toPDs ds) as
 | [],vs,us,h,r=>by
   cases (show vs=[] from h)
   cases r
   exact ⟨_,.nil⟩
 | d::ds,vs,us,h,r=>by
   obtain⟨v,q,rfl,hv,hq⟩:=h
   cases r with
   | cons r1 r2 =>
     obtain⟨as,ra⟩:=Ar0 I d hv r1
     obtain⟨bs,rb⟩:=readsAll_of I ds hq r2
     exact ⟨_,.cons ra rb⟩
end
end
mutual
theorem W6:∀ d:D,(toPD d).hasDict=false
 | .non=>rfl
 | .bl _=>rfl
 | .int _=>rfl
 | .str _=>rfl
 | .tup ds=>hasDict_toPDs ds
 | .lst ds=>hasDict_toPDs ds
theorem hasDict_toPDs:∀ ds:List D,PyData.hasDictAll (toPDs ds)=false
 | []=>rfl
 | d::ds=>by
   show ((toPD d).hasDict || PyData.hasDictAll (toPDs ds))=false
   rw [W6 d,hasDict_toPDs ds]
   rfl
end
end L2
namespace L2
open PySem PySem.Spec PyProof.Rows
inductive DE where
 | d (d:D) | nul
inductive TH where
 | one (e:DE) | rows (es:List DE)
def RepE (K:W.Frag) (H:Hp) (v:V):DE->Prop
 | .d d=>Rep K H v d
 | .nul=>∃ a,v=.ref a/\Rd H a (.dK [])
def Bc4 (K:W.Frag) (H:Hp):List V->List DE->Prop
 | [],[]=>True
 | v::vs,e::es=>RepE K H v e/\Bc4 K H vs es
 | _,_=>False
def RepT (K:W.Frag) (H:Hp) (v:V):TH->Prop
 | .one e=>RepE K H v e
 | .rows es=>∃ a vs,v=.ref a/\SqL K H a vs/\Bc4 K H vs es
def isE (n:String):DE->Bool
 | .d d=>isD n d
 | .nul=>n=="dict"
def isT (n:String):TH->Bool
 | .one e=>isE n e
 | .rows _=>n=="list"
section
variable {X:Cx}{K:W.Frag}
theorem Ao9 (hK:X.K=K:=by rfl):Du X (.builtin "isinstance") (fun xs H Q=>∃ x n t,xs=[x,.ty n]/\(n="int"\/n="bool"\/n="str"\/n="tuple"\/n="list"\/n="dict")/\RepT K H x t/\Q (.bl (isT n t)) H):=by
 subst hK
 intro Aa s σ H xs us Q I r h
 obtain⟨x,n,t,e,hn,hx,q⟩:=h
 match t,hx,q with
 | .one (.d d),hx,q=>exact K9 Aa s σ H xs us Q I r ⟨x,n,d,e,hn,hx,q⟩
 | .one .nul,hx,q =>
   obtain⟨a,e2,hr⟩:=hx
   exact Qv (K:=X.K) rfl Aa s σ H xs us Q I r ⟨x,n,.dic,e,hn,⟨a,[],e2,hr⟩,q⟩
 | .rows es,hx,q =>
   subst e
   obtain⟨a,vs,rfl,hq,_⟩:=hx
   obtain⟨u,v,rfl,rx,rt⟩:=Vz r
   cases rt
   cases rx
   obtain⟨its,_,⟨o,_,e,c,_⟩,_⟩:=I.list hq
   have k:=Aw7 (K:=X.K) (d:=.lst []) hn
   exact PySem.W.kia_one PySem.W.kitx_list I.kIn ⟨o,e,c⟩ k (fun z=>nomatch z) fun tk=>⟨.bl (n=="list"),H,I.tok tk,rfl,q⟩
end
section
variable {X:Cx}{Aa:List (Addr × Obj)}{σ:St}{H:Hp}{s:Shared}
end
structure Fin (B k:Nat) (p:PyData):Prop where
 sh:p.showable=true
 le:p.shown.length<=B
 dp:p.depth<=k
end L2
namespace L2
open PySem PySem.Spec PyProof.Rows
section
variable {prog:Program}{w:World}{A:Around}{E:Value->Shared->Prop}
end
end L2
namespace L2
open PySem PySem.Spec PyProof.Rows
section
variable {prog:Program}{w:World}{A:Around}{R:Result->Shared->Prop}
end
end L2
namespace L2
open PySem PySem.Spec PyProof.Rows
end L2
namespace L2
open PySem PySem.Spec PyProof.Rows
theorem Vd:typeLookup (.type "dict") "__len__"=pure (some (.builtin "dict.__len__")):=by rw [typeLookup_type,builtinLookup_eq_fast];kernel_rfl
theorem Xm {prog:Program}{w:World}{A:Around}{E:Value->Shared->Prop}{s:Shared}{d:Addr}{kvs:List (Key × Value)}{ep:Nat}{Q:List Value->Shared->Prop} (hh:A.handled=none)
 (hd:(d==sysModules)=false) (hm:s.heap.DictAt (mixKind prog w) d kvs ep)
 (hQ:∀ h' tk (acc:Array Value),(∀ b o,s.heap.get? b=some o->h'.get? b=some o)->s.heap.objs.size<h'.objs.size->ItemsOf (fun i v=>∃ k x,kvs[i]?=some (k,x)/\(mixKind prog w).is k v=true) acc kvs.length->Q acc.toList { s with heap:=h',toks:=tk })
 (hn:kvs.length<=sizeLine):wpAny (model prog w) A (collect (.ref d)) Q E s:=by
 unfold collect
 refine wpAny_bind (wpAny_runValue (codeAny_builtin PySem.F.entry_proto_collect ?_))
 rw [Around.under_plainId PySem.F.plain_proto_collect _]
 show wpAny _ A.in1 (newList []>>=fun l=>again (.builtin "list.__iadd__" ⟨[l,.ref d],[]⟩)) _ _ s
 refine wpAny_bind (wpAny_newObj_type ?_)
 refine wpAny_pure ⟨plainId_quiet PySem.F.plain_list_iadd _,codeAny_builtin PySem.F.entry_list_iadd ?_⟩
 rw [Around.under_plainId PySem.F.plain_list_iadd _]
 show wpAny _ A.in1 (Builtin.List.listExtendWith (.ref s.heap.objs.size) (.ref d) (.ref s.heap.objs.size)) _ _ _
 unfold Builtin.List.listExtendWith
 have hm1:(s.heap.push { cls:=.type "list",data:=.seq ([]:List Value).toArray }).DictAt (mixKind prog w) d kvs ep:=hm.at' fun o e=>Heap.get?_push_of_some _ e
 have hT1:({ s with heap:=s.heap.push { cls:=.type "list",data:=.seq ([]:List Value).toArray } }:Shared).TypeIs (.ref d) "dict":=hm1.dictOf.typeIs
 have hlt:d<s.heap.objs.size:=by
  obtain⟨o,es,ho,_⟩:=id hm
  exact Heap.lt_size ho
 have hSd:s.heap.objs.size≠d:=Ne.symm (Nat.ne_of_lt hlt)
 refine wpAny_bind (wpAny_typeOf hT1 ?_)
 have h1:Builtin.List.listSameRef (.ref s.heap.objs.size) (.ref d)=false:=by simp [Builtin.List.listSameRef,hSd]
 have h2:(Value.type "dict"==Value.type "list")=false:=by decide
 have h3:(Value.type "dict"==Value.type "tuple")=false:=by decide
 simp only [h1,h2,h3,Bool.or_false,Bool.false_eq_true,if_false]
 refine wpAny_bind (wpAny_pyIter_dict hd hm1 ?_)
 refine wpAny_bind (wpAny_holding ?_)
 generalize hH:s.heap.push { cls:=.type "list",data:=.seq ([]:List Value).toArray }=H at hm1 hT1 ⊢
 have hHs:H.objs.size=s.heap.objs.size+1:=by rw [←hH,Heap.size_push]
 have hS1:H.get? s.heap.objs.size=some { cls:=.type "list",data:=.seq ([]:List Value).toArray }:=hH▸Heap.get?_push_size _ rfl
 have old1:∀ b o,s.heap.get? b=some o->H.get? b=some o:=fun b o e=>hH▸Heap.get?_push_of_some _ e
 have hm2:(H.push { cls:=.type "dict_keyiterator",data:=.fields #[.ref d,.int 0 0,.int kvs.length 0,.int ep 0] }).DictAt (mixKind prog w) d kvs ep:=hm1.at' fun o e=>Heap.get?_push_of_some _ e
 have hI2:(H.push { cls:=.type "dict_keyiterator",data:=.fields #[.ref d,.int 0 0,.int kvs.length 0,.int ep 0] }).IsKeyIter H.objs.size d 0 kvs.length ep:=⟨_,Heap.get?_push_size _ rfl,rfl,rfl⟩
 have hS2:(H.push { cls:=.type "dict_keyiterator",data:=.fields #[.ref d,.int 0 0,.int kvs.length 0,.int ep 0] }).get? s.heap.objs.size=some { cls:=.type "list",data:=.seq ([]:List Value).toArray }:=Heap.get?_push_of_some _ hS1
 have old2:∀ b o,s.heap.get? b=some o->(H.push { cls:=.type "dict_keyiterator",data:=.fields #[.ref d,.int 0 0,.int kvs.length 0,.int ep 0] }).get? b=some o:=fun b o e=>Heap.get?_push_of_some _ (old1 b o e)
 generalize H.push { cls:=.type "dict_keyiterator",data:=.fields #[.ref d,.int 0 0,.int kvs.length 0,.int ep 0] }=G at hm2 hI2 hS2 old2 ⊢
 have hT2:({ s with heap:=G }:Shared).TypeIs (.ref d) "dict":=hm2.dictOf.typeIs
 unfold Builtin.List.listLengthHint
 refine wpAny_bind (wpAny_specialOf hT2 Vd ?_)
 wp_delta
 refine wpAny_bind (wpAny_isInstance (T:="dict") (v:=.ref d) (b:=true) hT2 (by rw [isSubtype_type];kernel_rfl) ?_)
 show wpAny _ A.in1 (typeOf (Value.ref d)>>=_) _ _ _
 refine wpAny_bind (wpAny_typeOf hT2 ?_)
 refine wpAny_pure ?_
 rw [if_pos (by decide)]
 refine wpAny_bind (wpAny_rule ?_)
 refine wpAny_bind ?_
 show wpAny _ A.in1 (updateSeq s.heap.objs.size (·.push .none)>>=fun _=>updateSeq s.heap.objs.size (·.pop)) _ _ _
 refine wpAny_bind (wpAny_updateSeq hS2 rfl ?_)
 have hS3:=Heap.get?_update_self (Obj.mapSeq (·.push Value.none)) hS2 rfl
 refine wpAny_updateSeq hS3 rfl ?_
 have hS4:=Heap.get?_update_self (Obj.mapSeq (·.pop)) hS3 rfl
 have oth:∀ b o,b≠s.heap.objs.size->G.get? b=some o->((G.update s.heap.objs.size (Obj.mapSeq (·.push Value.none))).update s.heap.objs.size (Obj.mapSeq (·.pop))).get? b=some o :=
  fun b o hb e=>(Heap.get?_update_other _ _ (Ne.symm hb)).trans ((Heap.get?_update_other _ _ (Ne.symm hb)).trans e)
 have hSI:H.objs.size≠s.heap.objs.size:=fun z=>by rw [hHs] at z;exact absurd z (Nat.succ_ne_self _)
 have hdI:d≠H.objs.size:=fun z=>by rw [z,hHs] at hlt;exact absurd hlt (Nat.not_lt.mpr (Nat.le_succ _))
 have hSf:s.heap.objs.size ∉ [H.objs.size,d]:=fun hq=>by
  rcases List.mem_cons.mp hq with z | z
  . exact hSI z.symm
  . exact hSd (List.mem_singleton.mp z)
 refine wpAny_pure ⟨plainId_quiet PySem.F.plain_extend_loop _,codeAny_extend_loopS (Walks.dictKeys (prog:=prog) (w:=w) (A:=A.in1) (knd:=mixKind prog w) hh H.objs.size d hdI kvs ep).toS hn _ hSf _ kvs.length 0 _ _ _ rfl (Nat.zero_le _)
  ⟨hI2.at fun o e=>oth _ o hSI e,hm2.at' fun o e=>oth _ o (Ne.symm hSd) e⟩ hS4 (ItemsOf.nil _) fun s' acc' c' hmv hS' hacc=>?_⟩
 show wpAny _ A (load s.heap.objs.size>>=_) _ _ s'
 refine wpAny_bind (wpAny_load hS' ?_)
 rw [Moved.eq_with hmv]
 refine wpAny_pure (hQ s'.heap s'.toks acc' (fun b ob e=>?_) (Heap.lt_size hS') hacc)
 have hb:=Heap.lt_size e
 refine hmv.heap b ob (fun hq=>?_) (oth b ob (fun z=>by rw [z] at hb;exact Nat.lt_irrefl _ hb) (old2 b ob e))
 rcases List.mem_cons.mp hq with z | z
 . rw [z] at hb;exact Nat.lt_irrefl _ hb
 . rw [List.mem_singleton.mp z,hHs] at hb;exact absurd hb (Nat.not_lt.mpr (Nat.le_succ _))
theorem o0 {P:Program}{w:World}:∀ (ks:List Int) (vs:List Value),ks.length=vs.length->(∀ (i:Nat) (n:Int) (u:Value),ks[i]?=some n->vs[i]?=some u->∃ t,u=.int n t)->IntsAre vs ks
 | [],[],_,_=>.nil
 | [],_::_,h,_=>by simp at h
 | _::_,[],h,_=>by simp at h
 | k::ks,v::vs,h,f=>by
   obtain⟨t,rfl⟩:=f 0 k v rfl rfl
   exact .cons _ _ (o0 (P:=P) (w:=w) ks vs (by simpa using h) fun i n u a b=>f (i+1) n u (by simpa using a) (by simpa using b))
theorem P5:∀{vs:List Value}{ns:List Int},IntsAre vs ns->Vals (ns.map V.int) vs
 | _,_,.nil=>.nil
 | _,_,.cons n t h=>.cons ⟨t,rfl⟩ (P5 h)
theorem P6:∀{vs:List Value}{ns:List Int},IntsAre vs ns->vs.length=ns.length
 | _,_,.nil=>rfl
 | _,_,.cons n t h=>by simp [P6 h]
theorem Xq {X:Cx} (hc:X.calm=true):Du X (.builtin "sorted") (fun xs H Q=>∃ (p:Addr) (ks:List Int) (kvs:List (Key × V)),xs=[.ref p]/\H p=some (.dK kvs)/\kvs.map (·.1)=ks.map (fun k=>(.inl k:Key))/\ks.length<64 ∧
 ∀ ms:List Int,ms.Perm ks->ms.Pairwise (·<=·)->∀ D,H D=none->Q (.ref D) (upd H D (.lst (ms.map V.int)))):=by
 intro Aa s σ H xs us Q I r h
 obtain⟨p,ks,kvs,rfl,hp,hk,h64,q⟩:=h
 obtain⟨u,rfl,ru⟩:=Mc r
 cases ru
 have hh:X.A.handled=none:=I.ok.hd hc
 obtain⟨z,hsys,vs,rel,o,es,ep,ho,c⟩:=id (I.hok p _ hp)
 have hm:s.heap.DictAt (mixKind X.prog X.w) p vs ep:=⟨o,es,ho,c⟩
 have hl:vs.length=ks.length:=by rw [←rel.length];simpa using congrArg List.length hk
 refine Calls.call_function_entry kind_sorted plain_sorted entry_sorted (args_sorted1 _) ?_
 unfold Builtin.«sorted»
 refine wpAny_bind (m:=checkCount "sorted" 1 1 _) (wpAny_pure ?_)
 refine wpAny_bind (Xm hh hsys hm (fun h1 tk acc old hlt it=>?_) (by rw [←rel.length];exact z))
 have hI:IntsAre acc.toList ks:=by
  refine o0 (P:=X.prog) (w:=X.w) ks acc.toList (by rw [←hl,←it.1];simp) fun i n u e1 e2=>?_
  obtain⟨k,x,e3,e4⟩:=it.2 i u (by simpa using e2)
  have e5:(vs.map (·.1))[i]?=some k:=by rw [List.getElem?_map,e3];rfl
  rw [←rel.keys,hk,List.getElem?_map,e1] at e5
  cases e5
  exact Ak6 e4
 have hal:acc.toList.length<64:=by rw [P6 hI];exact h64
 refine wpAny_bind (wpAny_newList ?_)
 have hoL:(h1.push (seqObj "list" acc.toList.toArray 0)).get? h1.objs.size=some (seqObj "list" acc.toList.toArray 0):=Heap.get?_push_size _ rfl
 show wpAny _ _ _ _ _ { s with heap:=h1.push (seqObj "list" acc.toList.toArray 0),toks:=tk }
 refine wpAny_bind (wpAny_holding (wpAny_call_entry slot_list_sort ⟨_,hoL,rfl⟩ entry_list_sort (list_sort_tree hoL hI hal fun out ns' a1 a2 a3=>⟨_,rfl,?_⟩) (args_list_sort _)))
 have hf:=I.hok.fresh (Nat.le_of_lt hlt)
 obtain⟨e9,at9⟩:=sortedHeap_at (out:=out) hoL
 have hn:ns'.length=ks.length:=a2.length_eq
 refine wpAny_pure ⟨_,rfl,.ref h1.objs.size,_,I.laid (a:=h1.objs.size) (t':=tk) (fun b ob e=>?_) (Nat.le_of_lt hlt) (show ObjOk X.prog X.w _ _ _ (.lst (ns'.map V.int)) from ⟨?_,out.toList,e9,P5 a1,by simpa using at9⟩),rfl,q ns' a2 a3 _ hf⟩
 . have hb:=Heap.lt_size (old b ob e)
   rw [sortedHeap_old (Nat.ne_of_lt hb) (by rw [size_push'];exact Nat.lt_succ_of_lt hb),Heap.get?_push_ne _ _ _ (Nat.ne_of_lt hb)]
   exact old b ob e
 . rw [List.length_map,hn,sizeLine_eq];omega
end L2
namespace L2
open PySem PySem.Spec PyProof.Rows
theorem X2 (a:Value):argsOk "max" ⟨[a],[]⟩:=by unfold argsOk;kernel_rfl
section
variable {prog:Program}{w:World}{A:Around}{R:Result->Shared->Prop}
theorem Wu {I S:Addr}{fp:List Addr}{n:Nat}{P:Nat->Value->Prop}{St:Nat->Heap->Prop} (W:Walks prog w A.in1 I fp [I] n P St) (hSf:S ∉ fp) (hSI:S≠I) (ks:List Int) (hn:ks.length=n) (hn0:0<n) (hP:∀ i v,P i v->∃ x t,ks[i]?=some x/\v=.int x t) :
 ∀ (k i:Nat) (s:Shared) (c:Nat) (best:Array Value),n-i=k->i<=n->St i s.heap->s.heap.get? S=some { cls:=.type "list",dict:=none,data:=.seq best c,slots:=#[] } →
 ((i=0/\best=#[])\/∃ m t,best=#[.int m t,.int m t]/\0<i/\m∈ks.take i/\∀ x∈ks.take i,x<=m) →
 (∀ m t h' tk,m∈ks->(∀ x∈ks,x<=m)->(∀ b o,b≠I->b≠S->s.heap.get? b=some o->h'.get? b=some o)->R (.ok (.ret (.int m t))) { s with heap:=h',toks:=tk }) →
 codeAny (model prog w) A (.builtin "max.loop" ⟨[.ref I,.none,.ref S],[]⟩) R s:=by
 have hname:(toString "max"++toString ".loop":String)="max.loop":=by decide
 intro k
 induction k with
 | zero =>
   intro i s c best hk hi hst hS hb hR
   have hin:i=n:=by omega
   subst hin
   refine codeAny_builtin PySem.F.entry_max_loop ?_;rw [Around.under_plainId PySem.F.plain_max_loop _]
   show wpAny _ A.in1 (seqItems? (.ref S)>>=_) _ _ s;refine wpAny_bind (wpAny_seqItems hS rfl ?_)
   show wpAny _ A.in1 (tryCatch (pyNext (.ref I)) _>>=_) _ _ s;skip
   refine wpAny_bind (wpAny_tryCatch (W.done s _ _ hst fun h' tk hk'=>?_))
   have hS':=hk' S _ (by simpa using hSI) hS
   rcases hb with ⟨h0,rfl⟩|⟨m,t,rfl,_,hm1,hm2⟩
   . omega
   . show wpAny _ A.in1 (updateSeq S (fun _=>#[])>>=_) _ _ _
     refine wpAny_bind ?_
     refine wpAny_updateSeq hS' rfl (wpAny_bind (wpAny_letGo (wpAny_pure ?_)))
     rw [←hn,List.take_length] at hm1 hm2
     exact hR m t _ tk hm1 hm2 fun b o hbI hbS e=>(Heap.get?_update_other _ _ (Ne.symm hbS)).trans (hk' b o (by simpa using hbI) e)
 | succ k ih =>
   intro i s c best hk hi hst hS hb hR
   have hlt:i<n:=by omega
   refine codeAny_builtin PySem.F.entry_max_loop ?_;rw [Around.under_plainId PySem.F.plain_max_loop _]
   show wpAny _ A.in1 (seqItems? (.ref S)>>=_) _ _ s;refine wpAny_bind (wpAny_seqItems hS rfl ?_)
   show wpAny _ A.in1 (tryCatch (pyNext (.ref I)) _>>=_) _ _ s;skip
   refine wpAny_bind (wpAny_tryCatch (W.item i s _ _ hlt hst fun v h' tk hPv hst' hk'=>?_))
   have hS':=hk' S _ (by simpa using hSI) hS
   obtain⟨n1,t1,hx,rfl⟩:=hP i v hPv
   have htk:ks.take (i+1)=ks.take i++[n1]:=by rw [List.take_succ,hx];rfl
   have upS:∀ f:Array Value->Array Value,St (i+1) (h'.update S (Obj.mapSeq f)):=fun f=>W.frame _ _ _ hst' fun b hb o e=>(Heap.get?_update_other _ _ (fun z:S=b=>hSf (by rw [z];exact hb))).trans e
   have old:∀ (f:Array Value->Array Value) (b:Addr) (o:Obj),b≠I->b≠S->s.heap.get? b=some o->(h'.update S (Obj.mapSeq f)).get? b=some o:=fun f b o hbI hbS e=>(Heap.get?_update_other _ _ (Ne.symm hbS)).trans (hk' b o (by simpa using hbI) e)
   rcases hb with ⟨h0,rfl⟩|⟨n2,t2,rfl,hi0,hm1,hm2⟩
   . show wpAny _ A.in1 (updateSeq S (fun _=>#[.int n1 t1,.int n1 t1])>>=_) _ _ _
     refine wpAny_bind ?_
     refine wpAny_updateSeq hS' rfl ?_
     rw [hname]
     subst h0
     refine wpAny_pure ⟨plainId_quiet PySem.F.plain_max_loop _,ih 1 _ _ #[.int n1 t1,.int n1 t1] (by omega) hlt (upS _) (Heap.get?_update_self _ hS' rfl) (.inr ⟨n1,t1,rfl,by omega,by rw [htk];simp,fun x hx'=>?_⟩) fun m t h'' tk' a1 a2 kk=>?_⟩
     . rw [htk] at hx'
       simp at hx'
       omega
     . exact hR m t h'' tk' a1 a2 fun b o hbI hbS e=>kk b o hbI hbS (old _ b o hbI hbS e)
   . show wpAny _ A.in1 (tryCatch (holding [.int n1 t1,.int n1 t1] (richCompare .Gt (.int n1 t1) (.int n2 t2)>>=_)) _>>=_) _ _ _
     refine wpAny_bind (wpAny_tryCatch (wpAny_holding (wpAny_bind (CmpOf.ints_gt (prog:=prog) (w:=w) (A:=A.in1) (P:=fun i v=>∃ t,v=.int (if i=0 then n1 else n2) t) (fun i=>if i=0 then n1 else n2) (fun i v h=>h) 0 1 _ _ _ _ _ ⟨t1,rfl⟩ ⟨t2,rfl⟩ ?_))))
     refine wpAny_bind (wpAny_holding (wpAny_truthy_bool ?_))
     refine wpAny_bind (wpAny_letGo (wpAny_pure ?_))
     split
     . next hgt =>
       have hgt':n2<n1:=by simpa using hgt
       refine wpAny_bind ?_
       refine wpAny_updateSeq hS' rfl (wpAny_bind (wpAny_letGo ?_));rw [hname]
       refine wpAny_pure ⟨plainId_quiet PySem.F.plain_max_loop _,ih (i+1) _ _ #[.int n1 t1,.int n1 t1] (by omega) hlt (upS _) (Heap.get?_update_self _ hS' rfl) (.inr ⟨n1,t1,rfl,by omega,by rw [htk];simp,fun x hx'=>?_⟩) fun m t h'' tk' a1 a2 kk=>?_⟩
       . rw [htk] at hx'
         rcases List.mem_append.mp hx' with h1 | h1
         . have:=hm2 x h1;omega
         . simp at h1;omega
       . exact hR m t h'' tk' a1 a2 fun b o hbI hbS e=>kk b o hbI hbS (old _ b o hbI hbS e)
     . next hgt =>
       have hgt':n1<=n2:=by simpa using hgt
       refine wpAny_bind (wpAny_letGo ?_);rw [hname]
       refine wpAny_pure ⟨plainId_quiet PySem.F.plain_max_loop _,ih (i+1) _ _ #[.int n2 t2,.int n2 t2] (by omega) hlt hst' hS' (.inr ⟨n2,t2,rfl,by omega,by rw [htk];simp [hm1],fun x hx'=>?_⟩) fun m t h'' tk' a1 a2 kk=>?_⟩
       . rw [htk] at hx'
         rcases List.mem_append.mp hx' with h1 | h1
         . exact hm2 x h1
         . simp at h1;omega
       . exact hR m t h'' tk' a1 a2 fun b o hbI hbS e=>kk b o hbI hbS (hk' b o (by simpa using hbI) e)
end
end L2
namespace L2
open PySem PySem.Spec PyProof.Rows
theorem Jg {X:Cx} (hc:X.calm=true):Du X (.builtin "max") (fun xs H Q=>∃ (p:Addr) (ks:List Int) (kvs:List (Key × V)),xs=[.ref p]/\H p=some (.dK kvs)/\kvs.map (·.1)=ks.map (fun k=>(.inl k:Key))/\ks≠[]/\∀ m,m∈ks->(∀ x∈ks,x<=m)->Q (.int m) H):=by
 intro Aa s σ H xs us Q I r h
 obtain⟨p,ks,kvs,rfl,hp,hk,hne,q⟩:=h
 obtain⟨u,rfl,ru⟩:=Mc r
 cases ru
 have hh:X.A.handled=none:=I.ok.hd hc
 obtain⟨z,hsys,vs,rel,o,es,ep,ho,c⟩:=id (I.hok p _ hp)
 have hm:s.heap.DictAt (mixKind X.prog X.w) p vs ep:=⟨o,es,ho,c⟩
 have hl:ks.length=vs.length:=by rw [←rel.length];simpa using (congrArg List.length hk).symm
 have hll:p<s.heap.objs.size:=Heap.lt_size ho
 have hname:(toString "max"++toString ".loop":String)="max.loop":=by decide
 refine PyProof.Rows.kmk_tree PySem.F.kind_max PySem.F.plain_max PySem.F.entry_max (X2 _) ?_
 show wpAny _ X.A.in1 (Builtin.Builtins.bindParams "max" ["key","default"] 0 ⟨[],[]⟩>>=_) _ _ s
 refine wpAny_bind (wpAny_of_eq (show Builtin.Builtins.bindParams "max" ["key","default"] 0 ⟨[],[]⟩=pure [none,none] from rfl) ?_)
 refine wpAny_bind (wpAny_pure ?_)
 refine wpAny_bind (wpAny_pyIter_dict hsys hm ?_)
 refine wpAny_bind (wpAny_newList ?_ (Nat.zero_le _))
 rw [hname]
 have hS:(s.heap.push { cls:=.type "dict_keyiterator",data:=.fields #[.ref p,.int 0 0,.int vs.length 0,.int ep 0] }).objs.size=s.heap.objs.size+1:=Heap.size_push ..
 refine wpAny_pure ⟨plainId_quiet PySem.F.plain_max_loop _,?_⟩
 have hpI:p≠s.heap.objs.size:=Nat.ne_of_lt hll
 refine Wu (S:=(s.heap.push { cls:=.type "dict_keyiterator",data:=.fields #[.ref p,.int 0 0,.int vs.length 0,.int ep 0] }).objs.size) (Walks.dictKeys (prog:=X.prog) (w:=X.w) (A:=X.A.in1) (knd:=mixKind X.prog X.w) hh s.heap.objs.size p hpI vs ep) ?_ (by rw [hS];exact Nat.succ_ne_self _) ks hl (by rw [←hl];exact List.length_pos_iff.mpr hne) (fun i v ⟨k,x,e1,e2⟩=>?_) _ 0 _ 0 #[] rfl (Nat.zero_le _) ⟨?_,?_⟩ ?_ (.inl ⟨rfl,rfl⟩) fun m t h' tk a1 a2 kk=>?_
 . rw [hS]
   intro hq
   rcases List.mem_cons.mp hq with y | y
   . exact absurd y (Nat.succ_ne_self _)
   . have y2:s.heap.objs.size+1=p:=by simpa using y
     exact absurd hll (by rw [←y2];exact Nat.not_lt.mpr (Nat.le_succ _))
 . have e5:(vs.map (·.1))[i]?=some k:=by rw [List.getElem?_map,e1];rfl
   rw [←rel.keys,hk,List.getElem?_map] at e5
   cases hx:ks[i]? with
   | none=>rw [hx] at e5;cases e5
   | some n =>
     rw [hx] at e5
     cases e5
     obtain⟨t,ht⟩:=Ak6 (P:=X.prog) (w:=X.w) e2
     exact ⟨n,t,rfl,ht⟩
 . exact ⟨_,Heap.get?_push_of_some _ (Heap.get?_push_size _ rfl),rfl,rfl⟩
 . exact (hm.at' fun o e=>Heap.get?_push_of_some _ e).at' fun o e=>Heap.get?_push_of_some _ e
 . exact Heap.get?_push_size _ rfl
 . refine⟨.int m,H,I.kept fun b o e=>?_,⟨t,rfl⟩,q m a1 a2⟩
   have hb:=Heap.lt_size e
   exact kk b o (Nat.ne_of_lt hb) (by rw [hS];exact Nat.ne_of_lt (Nat.lt_succ_of_lt hb)) (Heap.get?_push_of_some _ (Heap.get?_push_of_some _ e))
end L2
namespace L2
open PySem PySem.Spec PyProof.Rows
structure HasM (P:Program) (w:World) (K:W.Frag) (mg:Str->Option Value) (base:Heap) (C:Addr) (m:Str) (ps:List Str) (k:Nat) (sp:Sp):Prop where
 ex:∃ (f:Addr) (fd:FuncData),Meth K C m f/\N1 K fd ps []/\FnOk P w K mg base CX0 k f fd ps sp
structure HasC (P:Program) (w:World) (K:W.Frag) (mg:Str->Option Value) (base:Heap) (C:Addr) (ps:List Str) (k:Nat) (sp:Sp):Prop where
 ex:∃ (f:Addr) (fd:FuncData),Mk K C f/\N1 K fd ps []/\FnOk P w K mg base CX0 k f fd ps sp
section
variable {X:Cx}{K:W.Frag}{j k:Nat}{C:Addr}{ps:List Str}{sp:Sp}{x m f:Str}{p pos apos pos':Pos}{e o value:Expr}{es:List Expr}{ta tv:TE}{t:TA}
theorem Ud {pl:Sem Bool} (he:PE X o ta) (c:Cls X.K C) (h:HasM X.prog X.w X.K X.mg X.base C m ps j sp) (hr:Room k X.A) (ha:PA X (e::es) t) (hk:j<=k:=by decide)
 (hst:starEach (e::es) X.env=(false,eval e X.env)::starEach es X.env:=by rfl) (hpl:(backTo pos (starEach es X.env)).any (·.1)=false:=by rfl)
 (ht:eval (.Call (.Attribute o m apos) (e::es) [] pos) X.env=(do
   let ov ←eval o X.env
   standAt apos.atName
   let (f,first) ←holding [ov] (getMethod ov m pl)
   callWith pos f first (backTo pos (starEach (e::es) X.env)) (backToKw pos (keywordEach [] X.env))):=by rfl) :
 PE X (.Call (.Attribute o m apos) (e::es) [] pos) (A55 C m sp [] E0 ta t):=by
 obtain⟨f,fd,h1,h2,h3⟩:=h.ex
 exact Az6 he c h1 h3 (hr.mono hk) h2 .nil Az9 ha hst hpl ht
theorem Ar8 (h:HasC X.prog X.w X.K X.mg X.base C ps j sp) (hr:Room k X.A) (hg:Gl X x) (hm:X.mg x=some (.ref C)) (ha:PA X (e::es) t) (hk:j+1<=k:=by decide) (hdb:(x==("__debug__":Str))=false:=by decide)
 (he:starEach (e::es) X.env=(false,eval e X.env)::starEach es X.env:=by rfl) (hpl:(backTo pos (starEach es X.env)).any (·.1)=false:=by rfl):PE X (.Call (.Name x p) (e::es) [] pos) (A56 C sp [] E0 t):=by
 obtain⟨f,fd,h1,h2,h3⟩:=h.ex
 exact Az7 h1 h3 (hr.mono hk) hg hm h2 .nil Az9 ha hdb he hpl
theorem B8 (he:PE X e ta) (hK:X.K=K:=by rfl) (hb:attributeBase e f X.env (eval e X.env)=eval e X.env:=by rfl):PE X (.Attribute e f pos) (tFld K ta f):=by subst hK;exact A78 he hb
theorem Py (ha:PE X o ta) (hv:PE X value tv) (hK:X.K=K:=by rfl) (hs:swapsWith value (some (.Attribute o f pos')) pos.line X.env=pure false:=by rfl):PS X (.Assign [.Attribute o f pos'] value pos) (sFld K ta tv f):=by subst hK;exact A73 ha hv hs
end
end L2
namespace L2
open PySem PySem.Spec PyProof.Rows
structure FunD (K:W.Frag) (x qual:Str) (st:Stmt) (f:Addr) (fd:FuncData) (ds:List Value):Prop where
 ex:∃ (oc:Value) (od:Option Addr) (kV doc pm:Value) (an:Option Addr) (Bo ct:Value) (osl:Array (Option Value)) (dt:Addr) (tn:Nat) (tsl:Array (Option Value)) (tdd:Option Addr),
  fd=PySem.W.fnOf x qual (Av st) (As st) (Ah st) (.ref dt) kV doc pm an Bo ct/\K.lookup f=some ⟨oc,od,.func fd,osl⟩/\PySem.W.codeIn K Bo qual=true/\K.lookup dt=some ⟨.type "tuple",tdd,.seq ds.toArray tn,tsl⟩
 kp:PySem.W.keepIn K (.ref f)=true
section
variable {P:Program}{w:World}{K:W.Frag}{mg:Str->Option Value}{base:Heap}{ds:List Value}
theorem FunD.ok {x qual:Str}{st:Stmt}{f:Addr}{fd:FuncData}{N ps:List Str}{k:Nat}{sp:Sp} (F:FunD K x qual st f fd ds) (S:FnScope N ps (Ah st)) (len:∀ vs H Q E,sp vs H Q E->vs.length=ps.length)
 (hbody:∀ (Bo:Value) (A:Around) (outer:List Env) (s:Shared) (H:Hp) (vs:List V) (Q:VK) (E:XK),Room k (A.deeper (envOfC qual (Ah st) s.heap.objs.size f Bo))->sp vs H Q E →
   ∃ t,PSs (cxOf CX0 P w K mg base N qual (Ah st) f Bo A outer s H E).nox (As st) t/\t { nx:=fun _ H'=>Q .non H',rt:=Q } (start N vs) H):FnOk P w K mg base CX0 (k+1) f fd ps sp:=by
 obtain⟨oc,od,kV,doc,pm,an,Bo,ct,osl,dt,tn,tsl,tdd,rfl,lk,hcd,_⟩:=F.ex
 refine Bb5 lk hcd S len fun A outer s H vs Q E hr hsp=>?_
 obtain⟨t,h,q⟩:=hbody Bo A outer s H vs Q E hr hsp
 exact ⟨t,h.nox,q⟩
theorem FunD.binds {x qual:Str}{st:Stmt}{f:Addr}{fd:FuncData}{ps:List Str}{dd:List Value} (F:FunD K x qual st f fd ds)
 (h:∀ (kV doc pm:Value) (an:Option Addr) (Bo ct:Value) (dt:Addr) (us:List Value),us.length+dd.length=ps.length →
   ∃ k:Option (Array Value)->Sem (List (Str × Value)),bindArgs (PySem.W.fnOf x qual (Av st) (As st) (Ah st) (.ref dt) kV doc pm an Bo ct) ⟨us,[]⟩=seqItems? (.ref dt)>>=k/\k (some ds.toArray)=pure (ps.zip (us++dd))):N1 K fd ps dd:=by
 obtain⟨oc,od,kV,doc,pm,an,Bo,ct,osl,dt,tn,tsl,tdd,rfl,lk,hcd,lt⟩:=F.ex
 intro s us X hl
 obtain⟨k,h1,h2⟩:=h kV doc pm an Bo ct dt us (by rw [←List.length_append];exact hl)
 exact .of_defaults rfl (X _ _ lt) rfl h1 h2
structure Bc5 (P:Program) (w:World) (K:W.Frag) (mg:Str->Option Value) (base:Heap) (C:Addr) (ps:List Str) (dvs:List V) (k:Nat) (sp:Sp):Prop where
 ex:∃ (f:Addr) (fd:FuncData) (ds:List Value),Mk K C f/\N1 K fd ps ds/\Vals dvs ds/\FnOk P w K mg base CX0 k f fd ps sp
end
end L2
namespace L2
open PySem PySem.Spec PyProof.Rows PySem.W
section
variable {prog:Program}{w:World}{A:Around}{E:Value->Shared->Prop}{h:Heap}{g:Array GenState}{d:Drawn}{t:Nat}{os:OsState}{a C dx:Addr}{o:Obj}{K:Frag}{cd:ClassData}{mA:Str->Option Value}{v:Value}{name:Str}
end
end L2
namespace L2
open PySem PySem.Spec PyProof.Rows PySem.W PySem.Builtin PySem.Builtin.ObjectAttr
section
variable {prog:Program}{w:World}{A:Around}{K:Frag}{s:Shared}{x C D:Addr}{R:Result->Shared->Prop}
end
section
variable {prog:Program}{w:World}{A:Around}{E:Value->Shared->Prop}{K:Frag}{s:Shared}{x C:Addr}
end
end L2
namespace L2
open PySem PySem.Spec PyProof.Rows PySem.W
section
variable {prog:Program}{w:World}{A:Around}{E:Value->Shared->Prop}{h:Heap}{g:Array GenState}{d:Drawn}{t:Nat}{os:OsState}{K:Frag}{C D f:Addr}{rest:List Value}
end
end L2
namespace L2
open PySem PySem.Spec PyProof.Rows PySem.W
section
variable {X:Cx}{K:Frag}
end
end L2
namespace L2
open PySem PySem.Spec PyProof.Rows PySem.W
section
variable {M:Model}{A:Around}{E:Value->Shared->Prop}{env:Env}
end
section
variable {P:Program}{w:World}{K:W.Frag}{mg:Str->Option Value}{base:Heap}{N:List Str}{qual:Str}{scope:Scope}{f:Addr}{cd:Value}{A:Around}{outer:List Env}{s:Shared}{H:Hp}{E:XK}
end
end L2
namespace L2
open PySem PySem.Spec PyProof.Rows PySem.W
section
variable {prog:Program}{w:World}{A:Around}{E:Value->Shared->Prop}{h:Heap}{g:Array GenState}{d:Drawn}{t:Nat}{os:OsState}{a C dx:Addr}{o:Obj}{K:Frag}{mA:Str->Option Value}{v:Value}{name:Str}
end
section
variable {X:Cx}{K:Frag}
end
end L2
namespace L2
open PySem PySem.Spec PyProof.Rows PySem.W
section
variable {X:Cx}{K:Frag}
end
end L2
namespace Hb
def sumN (f:Nat->Int):Nat->Int
 | 0=>0
 | n+1=>sumN f n+f n
theorem El {f g:Nat->Int}:∀{n:Nat},(∀ k,k<n->f k=g k)->sumN f n=sumN g n
 | 0,_=>rfl
 | n+1,h=>by
   show sumN f n+f n=sumN g n+g n
   rw [El fun k hk=>h k (by omega),h n (by omega)]
theorem Tj (f g:Nat->Int):∀ n:Nat,sumN (fun k=>f k+g k) n=sumN f n+sumN g n
 | 0=>rfl
 | n+1=>by
   show sumN _ n+(f n+g n)=(sumN f n+f n)+(sumN g n+g n)
   rw [Tj f g n]
   omega
theorem V3 (c:Int) (f:Nat->Int):∀ n:Nat,sumN (fun k=>c*f k) n=c*sumN f n
 | 0=>by show (0:Int)=c*0;rw [Int.mul_zero]
 | n+1=>by
   show sumN _ n+c*f n=c*(sumN f n+f n)
   rw [V3 c f n,Int.mul_add]
theorem Sn (f:Nat->Int) (i:Nat):∀ n:Nat,sumN (fun k=>(if k=i then 1 else 0)*f k) n=if i<n then f i else 0
 | 0=>by simp [sumN]
 | n+1=>by
   show sumN _ n+(if n=i then 1 else 0)*f n=_
   rw [Sn f i n]
   by_cases h:n=i
   . subst h;simp
   . by_cases h2:i<n
     . rw [if_pos h2,if_neg h,if_pos (by omega)];omega
     . rw [if_neg h2,if_neg h,if_neg (by omega)];omega
end Hb
namespace Hb
open PySem L2
abbrev Ms:=List (Int × Int)
def nd (ms:Ms):Prop:=(ms.map (·.1)).Nodup
def nz (ms:Ms):Prop:=∀ p∈ms,p.2≠0
def addI (ms:Ms) (k n:Int):Ms:=if getI ms k+n=0 then Oi ms k else putI ms k (getI ms k+n)
def Do (ms ns:Ms):Ms:=ns.foldl (fun acc p=>addI acc p.1 p.2) ms
def A8 (n:Int) (ms:Ms):Ms:=if n=0 then [] else ms.map fun p=>(p.1,n*p.2)
def cutI (ms:Ms):Ms:=ms.filter fun p=>decide (p.2≠0)
theorem Ll {ms:Ms}{k v:Int} (h:Bd ms k=some v):(k,v)∈ms:=by
 induction ms with
 | nil=>simp [Bd] at h
 | cons p ms ih =>
   rw [Bm] at h
   by_cases e:p.1=k
   . rw [if_pos e] at h
     have:p=(k,v):=by cases p;simp_all
     rw [this];exact List.mem_cons_self ..
   . rw [if_neg e] at h
     exact List.mem_cons_of_mem _ (ih h)
theorem Aj4 {ms:Ms}{k:Int} (h:k ∉ ms.map (·.1)):Bd ms k=none:=by
 cases e:Bd ms k with
 | none=>rfl
 | some v=>exact absurd (List.mem_map_of_mem (f:=(·.1)) (Ll e)) h
theorem Gy {ms:Ms} (h:nd ms) {p:Int × Int} (hp:p∈ms):Bd ms p.1=some p.2:=by
 induction ms with
 | nil=>cases hp
 | cons q ms ih =>
   rw [Bm]
   unfold nd at h
   rw [List.map_cons,List.nodup_cons] at h
   rcases List.mem_cons.mp hp with rfl | hp
   . rw [if_pos rfl]
   . have:¬q.1=p.1:=fun z=>h.1 (by rw [z];exact List.mem_map_of_mem (f:=(·.1)) hp)
     rw [if_neg this]
     exact ih h.2 hp
theorem Dx {ms:Ms}{k:Int} (h:k ∉ ms.map (·.1)):getI ms k=0:=by unfold getI;rw [Aj4 h];rfl
theorem E6 (p:Int × Int) (ms:Ms) (k:Int):getI (p::ms) k=if p.1=k then p.2 else getI ms k:=by
 unfold getI;rw [Bm];split<;>rfl
theorem At6 {ms:Ms} (h:nz ms) (k:Int):Bd ms k=if getI ms k=0 then none else some (getI ms k):=by
 unfold getI
 cases e:Bd ms k with
 | none=>rfl
 | some v =>
   have:=h _ (Ll e)
   show some v=if v=0 then none else some v
   rw [if_neg this]
theorem Aj7:∀ (l1 l2:List Int),l1.Nodup->(∀ x∈l1,x∈l2)->l1.length<=l2.length
 | [],l2,_,_=>Nat.zero_le _
 | x::l1,l2,h,hs=>by
   rw [List.nodup_cons] at h
   have hx:=hs x (List.mem_cons_self ..)
   have:=Aj7 l1 (l2.erase x) h.2 fun y hy=>by
    have ne:y≠x:=fun z=>h.1 (z▸hy)
    exact (List.mem_erase_of_ne ne).mpr (hs y (List.mem_cons_of_mem _ hy))
   have e:=List.length_erase_of_mem hx
   have:0<l2.length:=List.length_pos_of_mem hx
   rw [List.length_cons]
   omega
theorem A13 {ms:Ms} (h:nd ms) (k:Int):nd (Oi ms k):=by
 unfold nd Oi at *
 exact List.Nodup.sublist (List.Sublist.map _ List.filter_sublist) h
theorem A10 {ms:Ms} (h:nz ms) (k:Int):nz (Oi ms k):=fun p hp=>h p (List.mem_filter.mp hp).1
theorem i5 {ms:Ms}{k:Int}:(ms.any fun p=>decide (p.1=k))=true↔k∈ms.map (·.1):=by
 rw [List.any_eq_true,List.mem_map]
 constructor
 . rintro ⟨p,hp,e⟩;exact ⟨p,hp,by simpa using e⟩
 . rintro ⟨p,hp,e⟩;exact ⟨p,hp,by simpa using e⟩
theorem Ai5 {ms:Ms} (h:nd ms) (k v:Int):nd (putI ms k v):=by
 unfold nd putI at *
 split
 . rw [List.map_map]
   have e:((fun p:Int × Int=>p.1) ∘ fun p:Int × Int=>if p.1=k then (p.1,v) else p)=(·.1):=by
    funext p
    simp only [Function.comp]
    split<;>rfl
   rw [e];exact h
 . rename_i hn
   rw [i5] at hn
   rw [List.map_append,List.nodup_append]
   refine⟨h,by simp,fun a ha b hb e=>?_⟩
   have:b=k:=by simpa using hb
   exact hn (by rw [←this,←e];exact ha)
theorem Aj0 {ms:Ms}{k v:Int}{p:Int × Int} (hp:p∈putI ms k v):p∈ms\/p=(k,v):=by
 unfold putI at hp
 split at hp
 . obtain⟨q,hq,e⟩:=List.mem_map.mp hp
   by_cases z:q.1=k
   . rw [if_pos z] at e;right;rw [←e,z]
   . rw [if_neg z] at e;left;rw [←e];exact hq
 . rcases List.mem_append.mp hp with h | h
   . exact .inl h
   . exact .inr (by simpa using h)
theorem Zy (ms:Ms) (k v:Int):(putI ms k v).length<=ms.length+1:=by
 unfold putI
 split
 . rw [List.length_map];omega
 . rw [List.length_append];simp
theorem n6 (ms:Ms) (k:Int):(Oi ms k).length<=ms.length:=List.length_filter_le ..
theorem A88 {ms:Ms} (h:nz ms) {k v:Int} (hv:v≠0):nz (putI ms k v):=fun p hp=>by
 rcases Aj0 hp with q | q
 . exact h p q
 . rw [q];exact hv
theorem Aw4 {ms:Ms} (h:nd ms) (k n:Int):nd (addI ms k n):=by unfold addI;split;exact A13 h k;exact Ai5 h k _
theorem A89 {ms:Ms} (h:nz ms) (k n:Int):nz (addI ms k n):=by
 unfold addI
 split
 . exact A10 h k
 . rename_i q;exact A88 h q
theorem Zz (ms:Ms) (k n:Int):(addI ms k n).length<=ms.length+1:=by
 unfold addI
 split
 . have:=n6 ms k;omega
 . exact Zy ..
theorem Al5 (ms:Ms) (k n j:Int):getI (addI ms k n) j=if j=k then getI ms j+n else getI ms j:=by
 unfold addI
 split
 . rename_i q
   unfold getI at *
   rw [Ab3]
   by_cases e:j=k
   . subst e;simp;omega
   . simp [e]
 . unfold getI at *
   rw [Pu]
   by_cases e:j=k
   . subst e;simp
   . simp [e]
theorem K0:∀ (ns ms:Ms),nd ms->nz ms->nd ns->nd (Do ms ns)/\nz (Do ms ns)/\(Do ms ns).length<=ms.length+ns.length/\∀ j,getI (Do ms ns) j=getI ms j+getI ns j
 | [],ms,h1,h2,_=>⟨h1,h2,by simp [Do],fun j=>by simp [Do,getI,Bd]⟩
 | p::ns,ms,h1,h2,h3=>by
   unfold nd at h3
   rw [List.map_cons,List.nodup_cons] at h3
   obtain⟨r1,r2,r3,r4⟩:=K0 ns (addI ms p.1 p.2) (Aw4 h1 _ _) (A89 h2 _ _) h3.2
   refine⟨r1,r2,?_,fun j=>?_⟩
   . have:=Zz ms p.1 p.2
     show (Do (addI ms p.1 p.2) ns).length<=_
     rw [List.length_cons];omega
   . show getI (Do (addI ms p.1 p.2) ns) j=_
     rw [r4,Al5,E6]
     by_cases e:j=p.1
     . have:=Dx h3.1
       subst e
       simp [this]
     . have e':¬p.1=j:=fun z=>e z.symm
       simp [e,e']
theorem Be6 {ms:Ms} (h:nd ms):nd (cutI ms):=by
 unfold nd cutI at *
 exact List.Nodup.sublist (List.Sublist.map _ List.filter_sublist) h
theorem Bb4 {ms:Ms} (h:nd ms) (k:Int):getI (cutI ms) k=getI ms k:=by
 induction ms with
 | nil=>rfl
 | cons p ms ih =>
   unfold nd at h
   rw [List.map_cons,List.nodup_cons] at h
   unfold cutI
   rw [List.filter_cons,E6]
   by_cases e:p.2=0
   . rw [if_neg (by simpa using e)]
     show getI (cutI ms) k=_
     rw [ih h.2]
     by_cases q:p.1=k
     . rw [if_pos q,e,←q,Dx h.1]
     . rw [if_neg q]
   . rw [if_pos (by simpa using e),E6]
     show (if p.1=k then p.2 else getI (cutI ms) k)=_
     rw [ih h.2]
def Ag4 (f:Int->Int) (n:Nat):Ms:=(List.range n).map fun (i:Nat)=>((i:Int),f (i:Int))
theorem Jm {ms:Ms} (h:nd ms) (n:Int):nd (ms.map fun p=>(p.1,n*p.2)):=by
 unfold nd at *
 rw [List.map_map]
 exact h
end Hb
namespace Hb
open PySem L2
theorem Ou:∀ (ns ms:Ms),(Do ms ns).length<=ms.length+ns.length
 | [],ms=>by simp [Do]
 | p::ns,ms=>by
   have h1:=Ou ns (addI ms p.1 p.2)
   have h2:=Zz ms p.1 p.2
   show (Do (addI ms p.1 p.2) ns).length<=_
   rw [List.length_cons];omega
theorem Ah0 {ms ns:Ms}{i:Nat}{q:Int × Int} (h:ns[i]?=some q):Do ms (ns.take (i+1))=addI (Do ms (ns.take i)) q.1 q.2:=by
 unfold Do
 rw [List.take_add_one,h,List.foldl_append]
 rfl
theorem Aq5 {ms:Ms} (h:nd ms) {i:Nat}{q:Int × Int} (hq:ms[i]?=some q):q.1 ∉ (ms.take i).map (·.1):=by
 intro hm
 obtain⟨p,hp,e⟩:=List.mem_map.mp hm
 obtain⟨j,hj,ej⟩:=List.mem_take_iff_getElem.mp hp
 have hij:j<i:=by omega
 have hi:i<ms.length:=(List.getElem?_eq_some_iff.mp hq).1
 unfold nd List.Nodup at h
 rw [List.pairwise_map,List.pairwise_iff_getElem] at h
 have:=h j i (by omega) hi hij
 rw [List.getElem?_eq_getElem hi] at hq
 have hq':=Option.some.inj hq
 exact this (by rw [ej,hq',e])
theorem An3 {ms:Ms}{i:Nat}{q:Int × Int} (hq:ms[i]?=some q):cutI (ms.take (i+1))=if q.2=0 then cutI (ms.take i) else cutI (ms.take i)++[q]:=by
 unfold cutI
 rw [List.take_add_one,hq,List.filter_append]
 by_cases e:q.2=0<;>simp [e]
theorem A39 {ms:Ms}{k:Int} (h:k ∉ ms.map (·.1)):k ∉ (cutI ms).map (·.1):=fun hm=>by
 obtain⟨p,hp,e⟩:=List.mem_map.mp hm
 exact h (List.mem_map.mpr ⟨p,(List.mem_filter.mp hp).1,e⟩)
theorem Aj8 (ms:Ms):(cutI ms).length<=ms.length:=List.length_filter_le ..
theorem range_succ (f:Int->Int) (n:Nat):Ag4 f (n+1)=Ag4 f n++[((n:Int),f n)]:=by
 unfold Ag4
 rw [List.range_succ,List.map_append]
 rfl
end Hb
namespace Hb
def Ak (w:List Int) (fam:Int):List (List Int) :=
 if fam=0 then (if w.length<2 then [] else (List.range w.length).map fun i=>w.take i++w.drop (i+1))
 else if w.length=0 then []
 else if fam<0 then (if w.length=1 then [[],[]] else w.map fun l=>[l])
 else w.drop 1::((List.range (w.length-1)).map fun i=>w.take i++[(w.getD i 0+w.getD (i+1) 0)%fam]++w.drop (i+2))++[w.take (w.length-1)]
def Word (fam:Int) (w:List Int):Prop :=
 (fam=0/\1<=w.length/\w.length<=4)\/(fam<0/\(w.length=0\/w.length=1\/w.length=3))\/(0<fam/\w.length<=3)
def lv (fam:Int) (w:List Int):Nat:=if fam=0 then w.length-1 else if fam<0 then (if w.length=3 then 2 else w.length) else w.length
theorem Mb {fam:Int}{w:List Int} (h:Word fam w) :
 (fam=0/\((∃ a,w=[a])\/(∃ a b,w=[a,b])\/(∃ a b c,w=[a,b,c])\/∃ a b c d,w=[a,b,c,d])) ∨
 (fam<0/\(w=[]\/(∃ a,w=[a])\/∃ a b c,w=[a,b,c])) ∨
 (0<fam/\(w=[]\/(∃ a,w=[a])\/(∃ a b,w=[a,b])\/∃ a b c,w=[a,b,c])):=by
 rcases h with ⟨h0,h1,h2⟩|⟨h0,h1⟩|⟨h0,h1⟩
 . left
   refine⟨h0,?_⟩
   match w,h1,h2 with
   | [a],_,_=>exact .inl ⟨a,rfl⟩
   | [a,b],_,_=>exact .inr (.inl ⟨a,b,rfl⟩)
   | [a,b,c],_,_=>exact .inr (.inr (.inl ⟨a,b,c,rfl⟩))
   | [a,b,c,d],_,_=>exact .inr (.inr (.inr ⟨a,b,c,d,rfl⟩))
   | _::_::_::_::_::_,_,h=>simp at h
 . right;left
   refine⟨h0,?_⟩
   match w,h1 with
   | [],_=>exact .inl rfl
   | [a],_=>exact .inr (.inl ⟨a,rfl⟩)
   | [a,b],h=>simp at h
   | [a,b,c],_=>exact .inr (.inr ⟨a,b,c,rfl⟩)
   | _::_::_::_::_,h=>simp at h
 . right;right
   refine⟨h0,?_⟩
   match w,h1 with
   | [],_=>exact .inl rfl
   | [a],_=>exact .inr (.inl ⟨a,rfl⟩)
   | [a,b],_=>exact .inr (.inr (.inl ⟨a,b,rfl⟩))
   | [a,b,c],_=>exact .inr (.inr (.inr ⟨a,b,c,rfl⟩))
   | _::_::_::_::_,h=>simp at h
theorem f0_1 (a:Int):Ak [a] 0=[]:=rfl
theorem f0_2 (a b:Int):Ak [a,b] 0=[[b],[a]]:=rfl
theorem f0_3 (a b c:Int):Ak [a,b,c] 0=[[b,c],[a,c],[a,b]]:=rfl
theorem f0_4 (a b c d:Int):Ak [a,b,c,d] 0=[[b,c,d],[a,c,d],[a,b,d],[a,b,c]]:=rfl
section
variable {fam:Int}
theorem fn_0 (h:fam<0):Ak [] fam=[]:=by unfold Ak;rw [if_neg (by omega),if_pos (by simp)]
theorem fn_1 (h:fam<0) (a:Int):Ak [a] fam=[[],[]]:=by unfold Ak;rw [if_neg (by omega),if_neg (by simp),if_pos h,if_pos (by simp)]
theorem fn_3 (h:fam<0) (a b c:Int):Ak [a,b,c] fam=[[a],[b],[c]]:=by unfold Ak;rw [if_neg (by omega),if_neg (by simp),if_pos h,if_neg (by simp)];rfl
theorem fp_0 (h:0<fam):Ak [] fam=[]:=by unfold Ak;rw [if_neg (by omega),if_pos (by simp)]
theorem fp_1 (h:0<fam) (a:Int):Ak [a] fam=[[],[]]:=by unfold Ak;rw [if_neg (by omega),if_neg (by simp),if_neg (by omega)];rfl
theorem fp_2 (h:0<fam) (a b:Int):Ak [a,b] fam=[[b],[(a+b)%fam],[a]]:=by unfold Ak;rw [if_neg (by omega),if_neg (by simp),if_neg (by omega)];rfl
theorem fp_3 (h:0<fam) (a b c:Int):Ak [a,b,c] fam=[[b,c],[(a+b)%fam,c],[a,(b+c)%fam],[a,b]]:=by unfold Ak;rw [if_neg (by omega),if_neg (by simp),if_neg (by omega)];rfl
theorem Jt {w f:List Int} (h:Word fam w) (hf:f∈Ak w fam):Word fam f/\lv fam f+1=lv fam w:=by
 rcases Mb h with ⟨h0,⟨a,rfl⟩|⟨a,b,rfl⟩|⟨a,b,c,rfl⟩|⟨a,b,c,d,rfl⟩⟩|⟨h0,rfl|⟨a,rfl⟩|⟨a,b,c,rfl⟩⟩|⟨h0,rfl|⟨a,rfl⟩|⟨a,b,rfl⟩|⟨a,b,c,rfl⟩⟩
 . subst h0;rw [f0_1] at hf;exact nomatch hf
 . subst h0;rw [f0_2] at hf
   simp only [List.mem_cons,List.not_mem_nil,or_false] at hf
   rcases hf with rfl | rfl<;>simp [Word,lv]
 . subst h0;rw [f0_3] at hf
   simp only [List.mem_cons,List.not_mem_nil,or_false] at hf
   rcases hf with rfl | rfl | rfl<;>simp [Word,lv]
 . subst h0;rw [f0_4] at hf
   simp only [List.mem_cons,List.not_mem_nil,or_false] at hf
   rcases hf with rfl | rfl | rfl | rfl<;>simp [Word,lv]
 . rw [fn_0 h0] at hf;exact nomatch hf
 . rw [fn_1 h0] at hf
   simp only [List.mem_cons,List.not_mem_nil,or_false,or_self] at hf
   subst hf
   have e:¬fam=0:=by omega
   simp [Word,lv,h0,e]
 . rw [fn_3 h0] at hf
   have e:¬fam=0:=by omega
   simp only [List.mem_cons,List.not_mem_nil,or_false] at hf
   rcases hf with rfl | rfl | rfl<;>simp [Word,lv,h0,e]
 . rw [fp_0 h0] at hf;exact nomatch hf
 . rw [fp_1 h0] at hf
   have e:¬fam=0:=by omega
   have e':¬fam<0:=by omega
   simp only [List.mem_cons,List.not_mem_nil,or_false,or_self] at hf
   subst hf
   simp [Word,lv,h0,e,e']
 . rw [fp_2 h0] at hf
   have e:¬fam=0:=by omega
   have e':¬fam<0:=by omega
   simp only [List.mem_cons,List.not_mem_nil,or_false] at hf
   rcases hf with rfl | rfl | rfl<;>simp [Word,lv,h0,e,e']
 . rw [fp_3 h0] at hf
   have e:¬fam=0:=by omega
   have e':¬fam<0:=by omega
   simp only [List.mem_cons,List.not_mem_nil,or_false] at hf
   rcases hf with rfl | rfl | rfl | rfl<;>simp [Word,lv,h0,e,e']
theorem Gi {w:List Int} (h:Word fam w):(Ak w fam).length=(if lv fam w=0 then 0 else lv fam w+1)/\lv fam w<=3:=by
 rcases Mb h with ⟨h0,⟨a,rfl⟩|⟨a,b,rfl⟩|⟨a,b,c,rfl⟩|⟨a,b,c,d,rfl⟩⟩|⟨h0,rfl|⟨a,rfl⟩|⟨a,b,c,rfl⟩⟩|⟨h0,rfl|⟨a,rfl⟩|⟨a,b,rfl⟩|⟨a,b,c,rfl⟩⟩
 . subst h0;simp [f0_1,lv]
 . subst h0;simp [f0_2,lv]
 . subst h0;simp [f0_3,lv]
 . subst h0;simp [f0_4,lv]
 all_goals have e:¬fam=0:=by omega
 . simp [fn_0 h0,lv,e,h0]
 . simp [fn_1 h0,lv,e,h0]
 . simp [fn_3 h0,lv,e,h0]
 all_goals have e':¬fam<0:=by omega
 . simp [fp_0 h0,lv,e,e']
 . simp [fp_1 h0,lv,e,e']
 . simp [fp_2 h0,lv,e,e']
 . simp [fp_3 h0,lv,e,e']
theorem faces_agree {w f g:List Int}{i j:Nat} (h:Word fam w) (hl:2<=lv fam w) (hij:i<j) (hf:(Ak w fam)[j]?=some f) (hg:(Ak w fam)[i]?=some g):(Ak f fam)[i]?=(Ak g fam)[j-1]?:=by
 have hj:j<(Ak w fam).length:=(List.getElem?_eq_some_iff.mp hf).1
 rcases Mb h with ⟨h0,⟨a,rfl⟩|⟨a,b,rfl⟩|⟨a,b,c,rfl⟩|⟨a,b,c,d,rfl⟩⟩|⟨h0,rfl|⟨a,rfl⟩|⟨a,b,c,rfl⟩⟩|⟨h0,rfl|⟨a,rfl⟩|⟨a,b,rfl⟩|⟨a,b,c,rfl⟩⟩
 . subst h0;simp [lv] at hl
 . subst h0;simp [lv] at hl
 . subst h0
   rw [f0_3] at hf hg hj
   have hc:(i=0/\j=1)\/(i=0/\j=2)\/(i=1/\j=2):=by simp at hj;omega
   rcases hc with ⟨rfl,rfl⟩|⟨rfl,rfl⟩|⟨rfl,rfl⟩
   . simp at hf hg;subst hf hg;rfl
   . simp at hf hg;subst hf hg;rfl
   . simp at hf hg;subst hf hg;rfl
 . subst h0
   rw [f0_4] at hf hg hj
   have hc:(i=0/\j=1)\/(i=0/\j=2)\/(i=0/\j=3)\/(i=1/\j=2)\/(i=1/\j=3)\/(i=2/\j=3):=by simp at hj;omega
   rcases hc with ⟨rfl,rfl⟩|⟨rfl,rfl⟩|⟨rfl,rfl⟩|⟨rfl,rfl⟩|⟨rfl,rfl⟩|⟨rfl,rfl⟩
   . simp at hf hg;subst hf hg;rfl
   . simp at hf hg;subst hf hg;rfl
   . simp at hf hg;subst hf hg;rfl
   . simp at hf hg;subst hf hg;rfl
   . simp at hf hg;subst hf hg;rfl
   . simp at hf hg;subst hf hg;rfl
 all_goals have e:¬fam=0:=by omega
 . simp [lv,e,h0] at hl
 . simp [lv,e,h0] at hl
 . rw [fn_3 h0] at hf hg hj
   have hc:(i=0/\j=1)\/(i=0/\j=2)\/(i=1/\j=2):=by simp at hj;omega
   rcases hc with ⟨rfl,rfl⟩|⟨rfl,rfl⟩|⟨rfl,rfl⟩
   . simp at hf hg;subst hf hg;simp [fn_1 h0]
   . simp at hf hg;subst hf hg;simp [fn_1 h0]
   . simp at hf hg;subst hf hg;simp [fn_1 h0]
 all_goals have e':¬fam<0:=by omega
 . simp [lv,e,e'] at hl
 . simp [lv,e,e'] at hl
 . rw [fp_2 h0] at hf hg hj
   have hc:(i=0/\j=1)\/(i=0/\j=2)\/(i=1/\j=2):=by simp at hj;omega
   rcases hc with ⟨rfl,rfl⟩|⟨rfl,rfl⟩|⟨rfl,rfl⟩
   . simp at hf hg;subst hf hg;simp [fp_1 h0]
   . simp at hf hg;subst hf hg;simp [fp_1 h0]
   . simp at hf hg;subst hf hg;simp [fp_1 h0]
 . rw [fp_3 h0] at hf hg hj
   have hc:(i=0/\j=1)\/(i=0/\j=2)\/(i=0/\j=3)\/(i=1/\j=2)\/(i=1/\j=3)\/(i=2/\j=3):=by simp at hj;omega
   rcases hc with ⟨rfl,rfl⟩|⟨rfl,rfl⟩|⟨rfl,rfl⟩|⟨rfl,rfl⟩|⟨rfl,rfl⟩|⟨rfl,rfl⟩
   . simp at hf hg;subst hf hg;simp [fp_2 h0]
   . simp at hf hg;subst hf hg;simp [fp_2 h0]
   . simp at hf hg;subst hf hg;simp [fp_2 h0]
   . skip
     simp at hf hg;subst hf hg
     simp only [fp_2 h0,List.getElem?_cons_succ,List.getElem?_cons_zero,Nat.add_one_sub_one]
     congr 2
     rw [Int.add_emod_emod,Int.emod_add_emod,Int.add_assoc]
   . simp at hf hg;subst hf hg;simp [fp_2 h0]
   . simp at hf hg;subst hf hg;simp [fp_2 h0]
end
def lev (p:List Int):Nat:=p.length-1
structure Fits (xs:List (List Int)) (p:List Int):Prop where
 cnt:p.length=0\/p.length=2\/p.length=3\/p.length=4
 low:∀ f∈p,0<=f
 bel:∀ f∈p,∃ q,xs[f.toNat]?=some q/\lev q+1=lev p
 agr:3<=p.length->∀ (i j:Nat) (f g:Int) (q r:List Int),i<j->p[j]?=some f->p[i]?=some g->xs[f.toNat]?=some q->xs[g.toNat]?=some r->q[i]?=r[j-1]?
def Lc (xs:List (List Int)):Prop:=∀ (k:Nat) (p:List Int),xs[k]?=some p->Fits (xs.take k) p
def Ord (fam:Int) (ws:List (List Int)):Prop:=∀ (k:Nat) (w:List Int),ws[k]?=some w->Word fam w/\∀ f∈Ak w fam,f∈ws.take k
theorem Ord.nil {fam:Int}:Ord fam []:=fun k w h=>by simp at h
theorem Ord.snoc {fam:Int}{ws:List (List Int)}{w:List Int} (h:Ord fam ws) (hw:Word fam w) (hf:∀ f∈Ak w fam,f∈ws):Ord fam (ws++[w]):=by
 intro k v hk
 by_cases hlt:k<ws.length
 . rw [List.getElem?_append_left hlt] at hk
   rw [List.take_append_of_le_length (by omega)]
   exact h k v hk
 . have hk':k<(ws++[w]).length:=(List.getElem?_eq_some_iff.mp hk).1
   have e:k=ws.length:=by simp at hk';omega
   subst e
   simp at hk
   subst hk
   rw [List.take_append_of_le_length (Nat.le_refl _),List.take_length]
   exact ⟨hw,hf⟩
theorem Ord.mem {fam:Int}{ws:List (List Int)} (h:Ord fam ws) {w:List Int} (hw:w∈ws):Word fam w/\∀ f∈Ak w fam,f∈ws:=by
 obtain⟨k,hk⟩:=List.getElem?_of_mem hw
 obtain⟨h1,h2⟩:=h k w hk
 exact ⟨h1,fun f hf=>List.mem_of_mem_take (h2 f hf)⟩
def Dc (ws:List (List Int)):List (List Int)->List (List Int)
 | []=>ws
 | w::r=>Dc (if w∈ws then ws else ws++[w]) r
theorem S8:∀ (rows ws:List (List Int)),(Dc ws rows).length<=ws.length+rows.length
 | [],ws=>by simp [Dc]
 | w::r,ws=>by
   have h1:=S8 r (if w∈ws then ws else ws++[w])
   have h2:(if w∈ws then ws else ws++[w]).length<=ws.length+1:=by
    split
    . omega
    . simp
   simp only [Dc,List.length_cons]
   omega
theorem S7 {fam:Int}:∀ (rows ws:List (List Int)),Ord fam ws->(∀ (k:Nat) (w:List Int),rows[k]?=some w->Word fam w/\∀ f∈Ak w fam,f∈ws\/f∈rows.take k)->Ord fam (Dc ws rows)
 | [],ws,h,_=>h
 | w::r,ws,h,hr=>by
   have h0:=hr 0 w rfl
   have hw:∀ f∈Ak w fam,f∈ws:=fun f hf=>(h0.2 f hf).resolve_right (by simp)
   simp only [Dc]
   refine S7 r _ ?_ fun k v hk=>?_
   . split
     . exact h
     . exact h.snoc h0.1 hw
   . obtain⟨h1,h2⟩:=hr (k+1) v (by simpa using hk)
     refine⟨h1,fun f hf=>?_⟩
     rcases h2 f hf with z | z
     . left
       split
       . exact z
       . exact List.mem_append_left _ z
     . rw [List.take_succ_cons] at z
       rcases List.mem_cons.mp z with z | z
       . left
         subst z
         split
         . assumption
         . simp
       . exact .inr z
def B0 (ws:List (List Int)):List (List Int)->List (List Int)->List (List Int)
 | acc,[]=>acc
 | acc,f::r=>B0 ws (if f ∉ ws/\f ∉ acc then acc++[f] else acc) r
theorem S5 {ws:List (List Int)}{x:List Int}:∀ (fs acc:List (List Int)),x∈B0 ws acc fs->x∈acc\/x∈fs
 | [],acc,h=>.inl h
 | f::r,acc,h=>by
   rcases S5 r _ h with z | z
   . split at z
     . rcases List.mem_append.mp z with z | z
       . exact .inl z
       . exact .inr (by simp at z;simp [z])
     . exact .inl z
   . exact .inr (List.mem_cons_of_mem _ z)
theorem La {ws:List (List Int)}{x:List Int}:∀ (fs acc:List (List Int)),x∈acc->x∈B0 ws acc fs
 | [],acc,h=>h
 | f::r,acc,h=>La r _ (by split;exact List.mem_append_left _ h;exact h)
theorem S6 {ws:List (List Int)}{x:List Int}:∀ (fs acc:List (List Int)),x∈fs->x∈ws\/x∈B0 ws acc fs
 | f::r,acc,h=>by
   rcases List.mem_cons.mp h with e | e
   . subst e
     by_cases h1:x∈ws
     . exact .inl h1
     . right
       refine La r _ ?_
       by_cases h2:x∈acc
       . rw [if_neg (by simp [h2])];exact h2
       . rw [if_pos ⟨h1,h2⟩];simp
   . exact S6 r _ e
theorem Nz {ws:List (List Int)}:∀ (fs acc:List (List Int)),(B0 ws acc fs).length<=acc.length+fs.length
 | [],acc=>by simp [B0]
 | f::r,acc=>by
   have h1:=Nz (ws:=ws) r (if f ∉ ws/\f ∉ acc then acc++[f] else acc)
   have h2:(if f ∉ ws/\f ∉ acc then acc++[f] else acc).length<=acc.length+1:=by
    split
    . simp
    . omega
   simp only [B0,List.length_cons]
   omega
def Dt (ws:List (List Int)) (fam:Int):List (List Int)->List (List Int)->List (List Int)
 | acc,[]=>acc
 | acc,w::r=>Dt ws fam (B0 ws acc (Ak w fam)) r
theorem L6 {ws:List (List Int)}{fam:Int}{x:List Int}:∀ (l acc:List (List Int)),x∈Dt ws fam acc l->x∈acc\/∃ w∈l,x∈Ak w fam
 | [],acc,h=>.inl h
 | w::r,acc,h=>by
   rcases L6 r _ h with z|⟨v,hv,z⟩
   . rcases S5 _ _ z with z | z
     . exact .inl z
     . exact .inr ⟨w,List.mem_cons_self,z⟩
   . exact .inr ⟨v,List.mem_cons_of_mem _ hv,z⟩
theorem S4 {ws:List (List Int)}{fam:Int}{x:List Int}:∀ (l acc:List (List Int)),x∈acc->x∈Dt ws fam acc l
 | [],acc,h=>h
 | w::r,acc,h=>S4 r _ (La _ _ h)
theorem X1 {ws:List (List Int)}{fam:Int}{x w:List Int}:∀ (l acc:List (List Int)),w∈l->x∈Ak w fam->x∈ws\/x∈Dt ws fam acc l
 | v::r,acc,h,hx=>by
   rcases List.mem_cons.mp h with e | e
   . subst e
     rcases S6 (ws:=ws) _ acc hx with z | z
     . exact .inl z
     . exact .inr (S4 r _ z)
   . exact X1 r _ e hx
theorem Jj {ws:List (List Int)}{fam:Int}:∀ (l acc:List (List Int)),(∀ w∈l,Word fam w)->(Dt ws fam acc l).length<=acc.length+4*l.length
 | [],acc,_=>by simp [Dt]
 | w::r,acc,h=>by
   have h1:=Jj (ws:=ws) r (B0 ws acc (Ak w fam)) fun v hv=>h v (List.mem_cons_of_mem _ hv)
   have h2:=Nz (ws:=ws) (Ak w fam) acc
   have h3:=Gi (h w List.mem_cons_self)
   simp only [Dt,List.length_cons]
   split at h3<;>omega
theorem Q3 (ws:List (List Int)) (f:List Int):∀ (fs acc:List (List Int)),B0 ws acc (fs++[f])=(if f ∉ ws/\f ∉ B0 ws acc fs then B0 ws acc fs++[f] else B0 ws acc fs)
 | [],acc=>rfl
 | g::fs,acc=>Q3 ws f fs _
theorem S3 (ws:List (List Int)) (fam:Int) (w:List Int):∀ (l acc:List (List Int)),Dt ws fam acc (l++[w])=B0 ws (Dt ws fam acc l) (Ak w fam)
 | [],acc=>rfl
 | v::l,acc=>S3 ws fam w l _
theorem Q4 (w:List Int):∀ (rows ws:List (List Int)),Dc ws (rows++[w])=(if w∈Dc ws rows then Dc ws rows else Dc ws rows++[w])
 | [],ws=>rfl
 | v::rows,ws=>Q4 w rows _
def Lm (ws:List (List Int)) (fam:Int):Nat->List (List Int)->List (List Int)->List (List Int)
 | 0,layer,rows=>rows
 | n+1,layer,rows=>Lm ws fam n (Dt ws fam [] layer) (layer++rows)
theorem Ww {ws:List (List Int)}{fam:Int}:∀ (n:Nat) (layer rows:List (List Int)),(∀ w∈layer,Word fam w/\lv fam w<n) →
 (∀ (k:Nat) (w:List Int),rows[k]?=some w->Word fam w/\∀ f∈Ak w fam,f∈ws\/f∈layer\/f∈rows.take k) →
 ∀ (k:Nat) (w:List Int),(Lm ws fam n layer rows)[k]?=some w->Word fam w/\∀ f∈Ak w fam,f∈ws\/f∈(Lm ws fam n layer rows).take k
 | 0,layer,rows,hl,hr,k,w,hk=>by
   obtain⟨h1,h2⟩:=hr k w hk
   refine⟨h1,fun f hf=>?_⟩
   rcases h2 f hf with z | z | z
   . exact .inl z
   . exact absurd (hl f z).2 (by omega)
   . exact .inr z
 | n+1,layer,rows,hl,hr,k,w,hk=>by
   refine Ww n _ _ ?_ ?_ k w hk
   . intro v hv
     rcases L6 _ _ hv with z|⟨u,hu,z⟩
     . exact nomatch z
     . obtain⟨q1,q2⟩:=hl u hu
       obtain⟨q3,q4⟩:=Jt q1 z
       exact ⟨q3,by omega⟩
   . intro m v hm
     by_cases hlt:m<layer.length
     . rw [List.getElem?_append_left hlt] at hm
       have hv:v∈layer:=List.mem_of_getElem? hm
       refine⟨(hl v hv).1,fun f hf=>?_⟩
       rcases X1 (ws:=ws) layer [] hv hf with z | z
       . exact .inl z
       . exact .inr (.inl z)
     . rw [List.getElem?_append_right (by omega)] at hm
       obtain⟨h1,h2⟩:=hr _ v hm
       refine⟨h1,fun f hf=>?_⟩
       rcases h2 f hf with z | z | z
       . exact .inl z
       . right;right
         rw [List.take_append]
         refine List.mem_append_left _ ?_
         rw [List.take_of_length_le (by omega)]
         exact z
       . right;right
         rw [List.take_append]
         exact List.mem_append_right _ z
def Ld (ws:List (List Int)) (w:List Int) (fam:Int):List (List Int):=Dc ws (Lm ws fam 4 [w] [])
theorem Th {ws:List (List Int)}{w:List Int}{fam:Int} (h:Ord fam ws) (hw:Word fam w):Ord fam (Ld ws w fam):=by
 refine S7 _ _ h (Ww 4 [w] [] ?_ ?_)
 . intro v hv
   have e:v=w:=by simpa using hv
   subst e
   exact ⟨hw,by have:=(Gi hw).2;omega⟩
 . intro k v hk
   simp at hk
def idx (ws:List (List Int)) (f:List Int):Nat:=ws.findIdx (·==f)
theorem A26 {ws:List (List Int)}{f:List Int} (h:f∈ws):ws[idx ws f]?=some f:=by
 unfold idx
 have hl:ws.findIdx (·==f)<ws.length:=List.findIdx_lt_length_of_exists ⟨f,h,by simp⟩
 rw [List.getElem?_eq_getElem hl]
 have:=List.findIdx_getElem (xs:=ws) (p:=(·==f)) (w:=hl)
 simpa using this
theorem Ba8 {ws:List (List Int)}{f:List Int}{k:Nat} (h:f∈ws.take k):idx ws f<k:=by
 unfold idx
 obtain⟨i,hi⟩:=List.getElem?_of_mem h
 have hlt:i<(ws.take k).length:=(List.getElem?_eq_some_iff.mp hi).1
 rw [List.getElem?_take] at hi
 split at hi
 . rename_i hik
   have hl:i<ws.length:=(List.getElem?_eq_some_iff.mp hi).1
   have e:ws[i]=f:=by
    rw [List.getElem?_eq_getElem hl] at hi
    exact Option.some.inj hi
   have hle:ws.findIdx (·==f)<=i:=by
    apply Nat.le_of_not_lt
    intro hgt
    have:=List.not_of_lt_findIdx hgt
    simp [e] at this
   omega
 . cases hi
def Ky (ws:List (List Int)) (fam:Int):List (List Int):=ws.map fun w=>(Ak w fam).map fun f=>(idx ws f:Int)
theorem Yo {ws:List (List Int)}{fam:Int}{k:Nat}{w:List Int} (h:ws[k]?=some w):(Ky ws fam)[k]?=some ((Ak w fam).map fun f=>(idx ws f:Int)):=by
 unfold Ky
 rw [List.getElem?_map,h]
 rfl
theorem Tx {ws:List (List Int)}{fam:Int} (h:Ord fam ws):Lc (Ky ws fam):=by
 intro k p hp
 unfold Ky at hp
 rw [List.getElem?_map] at hp
 cases hw:ws[k]? with
 | none=>rw [hw] at hp;cases hp
 | some w =>
   rw [hw] at hp
   have hp':(Ak w fam).map (fun f=>(idx ws f:Int))=p:=by simpa using hp
   subst hp'
   obtain⟨h1,h2⟩:=h k w hw
   obtain⟨n1,n2⟩:=Gi h1
   have look:∀ f∈Ak w fam,((Ky ws fam).take k)[((idx ws f:Nat):Int).toNat]?=some ((Ak f fam).map fun g=>(idx ws g:Int)):=fun f hf=>by
    have hm:=h2 f hf
    have hlt:=Ba8 hm
    rw [Int.toNat_natCast,List.getElem?_take,if_pos hlt]
    exact Yo (A26 (List.mem_of_mem_take hm))
   refine⟨?_,?_,?_,?_⟩
   . rw [List.length_map]
     by_cases hz:lv fam w=0
     . rw [if_pos hz] at n1;omega
     . rw [if_neg hz] at n1;omega
   . intro f hf
     obtain⟨g,_,rfl⟩:=List.mem_map.mp hf
     omega
   . intro f hf
     obtain⟨g,hg,rfl⟩:=List.mem_map.mp hf
     refine⟨_,look g hg,?_⟩
     obtain⟨w1,l1⟩:=Jt h1 hg
     obtain⟨m1,_⟩:=Gi w1
     unfold lev
     rw [List.length_map,List.length_map]
     have hz:¬lv fam w=0:=by omega
     rw [if_neg hz] at n1
     by_cases hy:lv fam g=0
     . rw [if_pos hy] at m1;omega
     . rw [if_neg hy] at m1;omega
   . intro hl i j f g q r hij hf hg hq hr
     rw [List.length_map] at hl
     rw [List.getElem?_map] at hf hg
     cases ef:(Ak w fam)[j]? with
     | none=>rw [ef] at hf;cases hf
     | some F =>
       cases eg:(Ak w fam)[i]? with
       | none=>rw [eg] at hg;cases hg
       | some G =>
         rw [ef] at hf
         rw [eg] at hg
         have ef':((idx ws F:Nat):Int)=f:=by simpa using hf
         have eg':((idx ws G:Nat):Int)=g:=by simpa using hg
         subst ef' eg'
         rw [look F (List.mem_of_getElem? ef)] at hq
         rw [look G (List.mem_of_getElem? eg)] at hr
         cases hq
         cases hr
         have hz:¬lv fam w=0:=by intro z;rw [if_pos z] at n1;omega
         rw [if_neg hz] at n1
         rw [List.getElem?_map,List.getElem?_map,faces_agree h1 (by omega) hij ef eg]
theorem Ab4 {ws:List (List Int)}{fam:Int}{w:List Int} (hw:Word fam w):(Lm ws fam 4 [w] []).length<=85:=by
 have step:∀ l:List (List Int),(∀ v∈l,Word fam v)->(Dt ws fam [] l).length<=4*l.length/\∀ v∈Dt ws fam [] l,Word fam v:=fun l hl=>by
  refine⟨by have:=Jj (ws:=ws) l [] hl;simpa using this,fun v hv=>?_⟩
  rcases L6 _ _ hv with z|⟨u,hu,z⟩
  . exact nomatch z
  . exact (Jt (hl u hu) z).1
 have s0:∀ v∈[w],Word fam v:=fun v hv=>by
  have e:v=w:=by simpa using hv
  subst e;exact hw
 obtain⟨a1,b1⟩:=step _ s0
 obtain⟨a2,b2⟩:=step _ b1
 obtain⟨a3,b3⟩:=step _ b2
 simp only [Lm,List.length_append,List.length_nil,List.length_cons] at a1 a2 a3 ⊢
 omega
end Hb
namespace Hb
def pc (xs:List (List Int)) (p:Int):List Int:=xs.getD p.toNat []
section
variable {xs:List (List Int)}
end
end Hb
namespace Hb
open PySem L2
def N6 (ns:List Int) (k:Int):Int:=ns.getD k.toNat 0
abbrev LT (K:W.Frag) (H:Hp) (v:V) (xs:List (List Int)):Prop:=Rep K H v (.lst (xs.map tI))
abbrev TI (K:W.Frag) (H:Hp) (v:V) (ns:List Int):Prop:=Rep K H v (tI ns)
section
variable {K:W.Frag}{H H':Hp}
theorem TI.sq {v:V}{ns:List Int} (h:TI K H v ns):∃ a,v=.ref a/\SqT K H a (ns.map V.int):=by
 obtain⟨a,vs,e,q,r⟩:=h
 rw [Ey.mp r] at q
 exact ⟨a,e,q⟩
theorem TI.mk {a:Addr}{ns:List Int} (h:SqT K H a (ns.map V.int)):TI K H (.ref a) ns:=⟨a,_,rfl,h,Ey.mpr rfl⟩
theorem TI.same {v:V}{ns:List Int} (s:Same H H') (h:TI K H v ns):TI K H' v ns:=Rep.same s h
theorem TI.t {v:V}{ns:List Int} (s:Q5 H H') (h:TI K H v ns):TI K H' v ns:=Rep.t s (Ak9 ns) h
theorem Oz (xs:List V) (k:Nat):cutV xs none (some (k:Int))=xs.take k:=by
 unfold cutV
 rw [HT.sIx_none,HT.sIx_nat,Nat.sub_zero,List.drop_zero,List.take_eq_take_iff]
 omega
theorem Lx (xs:List V) (k:Nat):cutV xs (some (k:Int)) none=xs.drop k:=by
 unfold cutV
 rw [HT.sIx_none,HT.sIx_nat]
 by_cases h:k<=xs.length
 . rw [Nat.min_eq_left h,List.take_of_length_le (by rw [List.length_drop];omega)]
 . rw [Nat.min_eq_right (by omega),List.drop_length,List.drop_of_length_le (by omega)]
   simp
theorem Ag5 {D:Addr}{ys:List V}{v:V}{d:L2.D}{ds:List L2.D} (hD:H D=some (.lst ys)) (r:Reps K H ys ds) (rv:Rep K H v d) (hi:imms (ds++[d])=true):Reps K (upd H D (.lst (ys++[v]))) (ys++[v]) (ds++[d]) :=
 (r.snoc rv).t (Q5.lst hD) hi
theorem Kz {D:Addr}{ys:List V}{v:V}{xs:List (List Int)}{x:List Int} (hD:H D=some (.lst ys)) (r:Reps K H ys (xs.map tI)) (rv:TI K H v x):Reps K (upd H D (.lst (ys++[v]))) (ys++[v]) ((xs++[x]).map tI):=by
 have e:(xs++[x]).map tI=xs.map tI++[tI x]:=by simp
 have h:=Lr (xs++[x])
 rw [e] at h ⊢
 exact Ag5 hD r rv h
def SameX (B:Addr) (H H':Hp):Prop:=∀ b o,b≠B->H b=some o->H' b=some o
theorem SameX.refl (B:Addr) (H:Hp):SameX B H H:=fun _ _ _ h=>h
theorem SameX.of {B:Addr}{H H1:Hp} (a:Same H H1):SameX B H H1:=fun c o _ h=>a c o h
theorem SameX.upd {B:Addr}{H H1:Hp}{o:HO} (a:SameX B H H1):SameX B H (upd H1 B o):=fun c u n h=>by rw [Ae n];exact a c u n h
theorem SameX.t {B:Addr}{H H1:Hp}{us:List V} (a:SameX B H H1) (h:H B=some (.lst us)):Q5 H H1 :=
 ⟨fun b xs e=>a b _ (Gs e h (by intro z;cases z)) e,fun b o u e=>a b _ (Gs e h (by intro z;cases z)) e⟩
theorem SameX.same {B:Addr}{H0 H H1:Hp} (a:SameX B H H1) (s:Same H0 H) (h:H0 B=none):Same H0 H1:=fun b o e=>a b o (Al e h) (s b o e)
theorem Jc:∀ ns:List Int,deps (nums ns)=0
 | []=>rfl
 | n::ns=>by show max (dep (.int n)) (deps (nums ns))=0;rw [Jc ns];rfl
theorem Ju:∀ xs:List (List Int),deps (xs.map tI)<=1
 | []=>Nat.zero_le _
 | x::xs=>by
   have h1:=Ju xs
   have h2:dep (tI x)=1:=by show deps (nums x)+1=1;rw [Jc]
   show max (dep (tI x)) (deps (xs.map tI))<=1
   omega
theorem Qz (f:List Int):∀ xs:List (List Int),(xs.map tI).any (fun e=>eqD e (tI f))=decide (f∈xs)
 | []=>rfl
 | x::xs=>by
   rw [List.map_cons,List.any_cons,Qz f xs,Ax0]
   by_cases h:x=f
   . subst h;simp
   . have h':¬f=x:=fun z=>h z.symm
     simp [h,h']
theorem ifP {c A B:Prop} [Decidable c] (hc:c) (h:A):if c then A else B:=by rw [if_pos hc];exact h
theorem ifN {c A B:Prop} [Decidable c] (hc:¬c) (h:B):if c then A else B:=by rw [if_neg hc];exact h
theorem neI {a b:Int} (h:¬a=b):(!decide (V.int a=V.int b))=true:=by simp [h]
theorem eqI {a b:Int} (h:a=b):¬(!decide (V.int a=V.int b))=true:=by simp [h]
theorem Nq {g:TG}{te:TE}{D:Addr}{Q:Hp->Prop}{τ:St}{H:Hp}{K:W.Frag}{a:Addr}{xs:List V} (Pv:Nat->List V->St->Hp->Prop) (h0:Pv 0 [] τ H) (hl:∀ i ys τ H,i<=xs.length->Pv i ys τ H->SqL K H a xs)
 (hs:∀ i x ys τ H,xs[i]?=some x->Pv i ys τ H->g x τ H fun τ2 H2=>te τ2 H2 fun y H4=>H4 D=some (.lst ys)/\ys.length<sizeLine/\Pv (i+1) (ys++[y]) τ2 (upd H4 D (.lst (ys++[y]))))
 (hd:∀ ys τ H,Pv xs.length ys τ H->Q H):RunC (Itl K a) g tYes te D Q τ H:=Xk Pv h0 hl (fun i x ys τ H e p=>hs i x ys τ H e p) hd
theorem Xj {g:TG}{te:TE}{D:Addr}{Q:Hp->Prop}{τ:St}{H:Hp}{K:W.Frag}{a:Addr}{xs:List V} (Pv:Nat->List V->St->Hp->Prop) (h0:Pv 0 [] τ H) (hl:∀ i ys τ H,i<=xs.length->Pv i ys τ H->SqT K H a xs)
 (hs:∀ i x ys τ H,xs[i]?=some x->Pv i ys τ H->g x τ H fun τ2 H2=>te τ2 H2 fun y H4=>H4 D=some (.lst ys)/\ys.length<sizeLine/\Pv (i+1) (ys++[y]) τ2 (upd H4 D (.lst (ys++[y]))))
 (hd:∀ ys τ H,Pv xs.length ys τ H->Q H):RunC (Itt K a) g tYes te D Q τ H:=Av1 Pv h0 hl (fun i x ys τ H e p=>hs i x ys τ H e p) hd
theorem Hh {g:TG}{te:TE}{D:Addr}{Q:Hp->Prop}{τ:St}{H:Hp}{lo:Int}{n:Nat} (Pv:Nat->List V->St->Hp->Prop) (h0:Pv 0 [] τ H)
 (hs:∀ i ys τ H,i<n->Pv i ys τ H->g (.int (lo+i)) τ H fun τ2 H2=>te τ2 H2 fun y H4=>H4 D=some (.lst ys)/\ys.length<sizeLine/\Pv (i+1) (ys++[y]) τ2 (upd H4 D (.lst (ys++[y]))))
 (hd:∀ ys τ H,Pv n ys τ H->Q H):RunC (Itr lo n) g tYes te D Q τ H:=Ad6 Pv h0 (fun i ys τ H e p=>hs i ys τ H e p) hd
theorem Aq {t u:TS}{D:Ends}{σ:St}{H:Hp} (P:St->Hp->Prop) (hu:∀ σ' H',P σ' H'->u D σ' H') (h:∀{N:St->Hp->Prop},(∀ σ' H',P σ' H'->N σ' H')->t { D with nx:=N } σ H):tSeq t u D σ H:=h hu
theorem Ia {t u:TS}{D:Ends}{σ:St}{H:Hp} (P:St->Hp->Prop) (hu:∀ σ' H',P σ' H'->u D σ' H') (h:(∀ σ' H',P σ' H'->u D σ' H')->tSeq t u D σ H):tSeq t u D σ H:=h hu
theorem Ac4 {f:List Int}:∀{ws:List (List Int)},f∈ws->(ws.map tI).findIdx? (fun e=>eqD e (tI f))=some (idx ws f):=fun {ws} h=>by
 have e:(ws.map tI).findIdx? (fun e=>eqD e (tI f))=ws.findIdx? (fun w=>w==f):=by
  rw [List.findIdx?_map]
  congr 1
  funext w
  show eqD (tI w) (tI f)=(w==f)
  rw [Ax0]
  by_cases z:w=f
  . subst z;simp
  . simp [z]
 rw [e,List.findIdx?_eq_some_of_exists (xs:=ws) (p:=fun w=>w==f) ⟨f,h,by simp⟩]
 rfl
theorem C5 {n:Nat} (h:n<=1000000):n<sizeLine:=Nat.lt_of_le_of_lt h (by decide)
theorem A7 {n:Nat} (h:n<=1000000):n<=sizeLine:=Nat.le_of_lt (C5 h)
end
section
variable (K:W.Frag)
def v5:Sp:=fun vs H Q _=>∃ (a:Addr) (ns:List Int) (k:Int),vs=[.ref a,.int k]/\SqL K H a (ns.map V.int)/\0<=k/\ns.length<=63/\Q (.int (N6 ns k)) H
def Yg:Sp:=fun vs H Q _=>∃ (v:V) (w:List Int) (fam:Int),vs=[v,.int fam]/\TI K H v w/\Word fam w ∧
 ∀ (p:Addr) (us:List V) (H':Hp),H p=none->Same H H'->H' p=some (.lst us)->Reps K H' us ((Ak w fam).map tI)->Q (.ref p) H'
def v4:Sp:=fun vs H Q _=>∃ (c fam letters:Int),vs=[.int c,.int fam,.int letters]/\0<letters/\letters<100/\fam<100 ∧
 ∀ (v:V) (H':Hp) (w:List Int),Same H H'->TI K H' v w->Word fam w->Q v H'
def Tk:Sp:=fun vs H Q _=>∃ (l:Addr) (us:List V) (v:V) (ws:List (List Int)) (w:List Int) (fam:Int),vs=[.ref l,v,.int fam]/\H l=some (.lst us)/\Reps K H us (ws.map tI)/\TI K H v w/\Word fam w/\ws.length<=100 ∧
 ∀ (p:Addr) (us':List V) (H':Hp),H p=none->Same H H'->H' p=some (.lst us')->Reps K H' us' ((Ld ws w fam).map tI)->Q (.ref p) H'
def j9:Sp:=fun vs H Q _=>∃ (a:Addr) (ns:List Int),vs=[.ref a]/\SqL K H a (ns.map V.int)/\ns.length<=63/\∀ H',Q (.bl true) H'
def Kt:Sp:=fun vs H Q _=>∃ (a:Addr) (ns:List Int) (kind most:Int),vs=[.int kind,.ref a,.int most]/\SqL K H a (ns.map V.int)/\ns.length<=63/\0<=most/\most<=100 ∧
 ∀ (p:Addr) (us:List V) (H':Hp) (xs:List (List Int)),H p=none->Same H H'->H' p=some (.lst us)->Reps K H' us (xs.map tI)->Lc xs->(xs.length:Int)<=most->Q (.ref p) H'
end
end Hb
namespace Hb
open PySem L2
def Dz (d:L2.D):Bool:=isD "int" d&&!isD "bool" d
def Qy (d:L2.D) (b:Int):Bool:=match d with
 | .int i=>decide (0<=i)&&decide (i<b)
 | _=>false
def levI (n:Nat):Int:=if (0:Int) > (n:Int)-1 then 0 else (n:Int)-1
def Bc (xs:List (List Int)) (d:L2.D) (l:Int):Bool:=match d with
 | .int i=>decide (0<=i)&&decide (i<(xs.length:Int))&&decide (levI (xs.getD i.toNat []).length=l)
 | _=>false
def Ny (xs:List (List Int)) (p:List Int) (j i:Nat):Bool:=decide ((xs.getD (p.getD j 0).toNat []).getD i 0=(xs.getD (p.getD i 0).toNat []).getD (j-1) 0)
def Jk (xs:List (List Int)) (p:List Int):Bool:=(List.range p.length).all fun j=>(List.range j).all fun i=>Ny xs p j i
def toI:L2.D->Int
 | .int i=>i
 | _=>0
def cntB (n:Nat):Bool:=n==0 || n==2 || n==3 || n==4
def Ka (xs:List (List Int)) (d:L2.D):Bool:=match d with
 | .tup ds=>cntB ds.length&&ds.all (fun e=>Bc xs e (levI ds.length-1))&&(decide (levI ds.length<2) || Jk xs (ds.map toI))
 | _=>false
theorem E7 (xs:List (List Int)) (ds:List L2.D):Ka xs (.tup ds)=(cntB ds.length&&ds.all (fun e=>Bc xs e (levI ds.length-1))&&(decide (levI ds.length<2) || Jk xs (ds.map toI))):=rfl
theorem A43 {n:Nat} (h:cntB n=true):n<=4/\n≠1:=by
 unfold cntB at h
 simp only [Bool.or_eq_true,beq_iff_eq] at h
 omega
section
variable (K:W.Frag)
def Ew:Sp:=fun vs H Q _=>∃ (x:V) (d:L2.D),vs=[x]/\Rep K H x d/\Q (.bl (Dz d)) H
abbrev Mf:Sp:=Ew K
def Bv:Sp:=fun vs H Q _=>∃ (x:V) (d:L2.D) (b:Int),vs=[x,.int b]/\Rep K H x d/\Q (.bl (Qy d b)) H
def Dh:Sp:=fun vs H Q _=>∃ (x:V) (ds:List L2.D),vs=[x]/\SeqD K H x ds/\Q (.int (levI ds.length)) H
def Bt:Sp:=fun vs H Q _=>∃ (a:Addr) (x:V) (d:L2.D) (l:Int) (xs:List (List Int)),vs=[.ref a,x,.int l]/\LT K H (.ref a) xs/\Rep K H x d/\Q (.bl (Bc xs d l)) H
def Fk:Sp:=fun vs H Q _=>∃ (a:Addr) (v:V) (xs:List (List Int)) (p:List Int),vs=[.ref a,v]/\LT K H (.ref a) xs/\TI K H v p/\p.length<=4 ∧
 (∀ f∈p,0<=f/\f<(xs.length:Int)/\(xs.getD f.toNat []).length+1=p.length)/\Q (.bl (Jk xs p)) H
abbrev Fe:Sp:=v5 K
abbrev Ei:Sp:=Yg K
abbrev Id:Sp:=v4 K
abbrev Ex:Sp:=Tk K
end
section
variable {K:W.Frag}{H:Hp}
theorem u5 {d:L2.D} (h:Dz d=true):∃ i,d=.int i:=by
 cases d<;>simp [Dz,isD] at h
 exact ⟨_,rfl⟩
theorem LT.get {a:Addr}{xs:List (List Int)}{i:Int} (h:LT K H (.ref a) xs) (h0:0<=i) (h1:i<(xs.length:Int)):∃ us v,SqL K H a us/\atI us i=some v/\TI K H v (xs.getD i.toNat []):=by
 obtain⟨a',us,e,hq,r⟩:=h
 cases e
 obtain⟨j,rfl⟩:=Int.eq_ofNat_of_zero_le h0
 have hj:j<xs.length:=by omega
 have e:(xs.map tI)[j]?=some (tI xs[j]):=by rw [List.getElem?_map,List.getElem?_eq_getElem hj];rfl
 obtain⟨v,hv,tv⟩:=r.get e
 refine⟨us,v,hq,Cg hv,?_⟩
 rw [Int.toNat_natCast,List.getD_eq_getElem?_getD,List.getElem?_eq_getElem hj]
 exact tv
theorem LT.len {a:Addr}{xs:List (List Int)} (h:LT K H (.ref a) xs):∃ us,SqL K H a us/\us.length=xs.length:=by
 obtain⟨a',us,e,hq,r⟩:=h
 cases e
 exact ⟨us,hq,by have:=r.length;simpa using this⟩
theorem TI.get {v:V}{p:List Int}{i:Int} (h:TI K H v p) (h0:0<=i) (h1:i<(p.length:Int)):∃ a,v=.ref a/\SqT K H a (p.map V.int)/\atI (p.map V.int) i=some (.int (p.getD i.toNat 0)):=by
 obtain⟨a,e,hq⟩:=h.sq
 refine⟨a,e,hq,?_⟩
 obtain⟨j,rfl⟩:=Int.eq_ofNat_of_zero_le h0
 have hj:j<p.length:=by omega
 refine Cg ?_
 rw [List.getElem?_map,List.getElem?_eq_getElem hj]
 simp [hj]
theorem Fv (n:Nat):levI n=((n-1:Nat):Int):=by unfold levI;split<;>omega
theorem r9 {xs:List (List Int)}{l:Int}:∀{ds:List L2.D},ds.all (fun e=>Bc xs e l)=true->ds=nums (ds.map toI)
 | [],_=>rfl
 | d::ds,h=>by
   simp only [List.all_cons,Bool.and_eq_true] at h
   cases d with
   | int i =>
     show L2.D.int i::ds=L2.D.int i::nums (ds.map toI)
     rw [←r9 h.2]
   | _=>simp [Bc] at h
end
end Hb
namespace L2
open PySem PySem.Spec PyProof.Rows
section
variable {X:Cx}{sc:Scope}{N':List Str}{cap:List (Option Nat)}{xc:Str}{Aa:List (Addr × Obj)}{σ:St}{H:Hp}{s:Shared}{C c:Addr}{fp:List Addr}
end
section
variable {X:Cx}{sc:Scope}{N':List Str}{cap:List (Option Nat)}{xc:Str}{tg elt iter:Expr}{ifs:List Expr}{pos:Pos}{g:TG}{tc:TT}{te:TE}
end
end L2
namespace Hb
open PySem L2
section
variable {H H1:Hp}{a:Addr}{ms:Ms}{k v:Int}
theorem Ve (rd:Rd H a (.dK (cK ms))):DGet H a (.int k) ((Bd ms k).map V.int):=.inl ⟨cK ms,.inl k,rd,rfl,(Xw ms k).symm⟩
theorem Hg (rd:Rd H a (.dK (cK ms))) (h:Bd ms k=some v):DGet H a (.int k) (some (.int v)):=.inl ⟨cK ms,.inl k,rd,rfl,by rw [Xw,h];rfl⟩
theorem Qe (h:H a=some (.dK (cK ms))) (hl:ms.length<=1000000):DPut H a (.int k) (.int v) (upd H a (.dK (cK (putI ms k v)))):=by
 rw [←Bc3]
 exact .inl ⟨cK ms,.inl k,h,rfl,by unfold cK;rw [List.length_map];exact C5 hl,rfl⟩
theorem L5 {i:Nat}{kk:Key}{x:V} (h:(cK ms)[i]?=some (kk,x)):∃ p:Int × Int,ms[i]?=some p/\kk=.inl p.1/\x=.int p.2:=by
 unfold cK at h
 rw [List.getElem?_map] at h
 cases e:ms[i]? with
 | none=>rw [e] at h;cases h
 | some p =>
   rw [e] at h
   have:=Option.some.inj h
   simp only [Prod.mk.injEq] at this
   exact ⟨p,rfl,this.1.symm,this.2.symm⟩
theorem Dg:(cK ms).length=ms.length:=by unfold cK;rw [List.length_map]
theorem Av7 {o:HO} (h:H a=some o):upd H a o=H:=by
 funext b
 by_cases e:b=a
 . rw [e,Ac,h]
 . rw [Ae e]
theorem Lu {x:HO}{D:Addr} (h:(upd H a x) D=none):H D=none/\D≠a:=by
 have n:D≠a:=fun z=>by rw [z,Ac] at h;cases h
 rw [Ae n] at h
 exact ⟨h,n⟩
end
theorem put_new {ms:Ms}{k v:Int} (h:k ∉ ms.map (·.1)):putI ms k v=ms++[(k,v)]:=by
 unfold putI
 rw [if_neg (fun z=>h (i5.mp z))]
def newC (H:Hp) (ms:Ms) (Q:V->Hp->Prop):Prop:=∀ (D:Addr) (H':Hp),H D=none->Same H H'->H' D=some (.dK (cK ms))->Q (.ref D) H'
section
variable (K:W.Frag)
def Ic (_K:W.Frag):Sp:=fun vs H Q _=>∃ (a:Addr) (ms:Ms) (k n:Int),vs=[.ref a,.int k,.int n]/\H a=some (.dK (cK ms))/\ms.length<=1000000/\Q .non (upd H a (.dK (cK (addI ms k n))))
def Yd (_K:W.Frag):Sp:=fun vs H Q _=>∃ (a b:Addr) (ms ns:Ms),vs=[.ref a,.ref b]/\Rd H a (.dK (cK ms))/\H b=some (.dK (cK ns))/\ms.length<=1000/\ns.length<=1000/\newC H (Do ms ns) Q
def Tl (_K:W.Frag):Sp:=fun vs H Q _=>∃ (n:Int) (a:Addr) (ms:Ms),vs=[.int n,.ref a]/\H a=some (.dK (cK ms))/\ms.length<=1000/\(∀ p∈ms,IntMulOk n p.2)/\newC H (A8 n ms) Q
end
end Hb
namespace Hb
open PySem L2
def modI (p:Int) (ms:Ms):Ms:=(ms.filter fun q=>decide (q.2%p≠0)).map fun q=>(q.1,q.2%p)
def Ay (ms:Ms):List Int:=ms.map (·.1)
theorem At4 {p:Int}{ms:Ms}{x:Int} (h:x∈Ay (modI p ms)):x∈Ay ms:=by
 unfold Ay modI at h
 rw [List.map_map] at h
 obtain⟨q,hq,rfl⟩:=List.mem_map.mp h
 exact List.mem_map.mpr ⟨q,(List.mem_filter.mp hq).1,rfl⟩
theorem Aw6 {p:Int}{ms:Ms} (h:nd ms):nd (modI p ms):=by
 unfold nd modI
 rw [List.map_map]
 exact (List.filter_sublist.map _).nodup h
theorem K2 {p:Int}:∀{ms:Ms},nd ms->∀ k,getI (modI p ms) k=getI ms k%p
 | [],_,k=>by simp [modI,getI,Bd]
 | q::ms,h,k=>by
   have h2:nd ms:=(List.nodup_cons.mp h).2
   have h1:q.1 ∉ ms.map (·.1):=(List.nodup_cons.mp h).1
   have ih:=K2 (p:=p) h2 k
   rw [E6]
   unfold modI at ih ⊢
   by_cases hq:q.2%p≠0
   . rw [List.filter_cons_of_pos (by simpa using hq),List.map_cons,E6]
     by_cases hk:q.1=k
     . rw [if_pos hk,if_pos hk]
     . rw [if_neg hk,if_neg hk];exact ih
   . rw [List.filter_cons_of_neg (by simpa using hq),ih]
     by_cases hk:q.1=k
     . rw [if_pos hk,←hk,Dx h1]
       have:q.2%p=0:=by simpa using hq
       rw [this];simp
     . rw [if_neg hk]
structure OkM (p:Int) (ms:Ms):Prop where
 nd:nd ms
 bd:∀ q∈ms,0<q.2/\q.2<p
theorem OkM.nz {p:Int}{ms:Ms} (h:OkM p ms):nz ms:=fun q hq=>by have:=(h.bd q hq).1;omega
theorem Ai8 {p:Int}{ms:Ms} (h:nd ms) (hp:0<p):OkM p (modI p ms):=by
 refine⟨Aw6 h,fun q hq=>?_⟩
 obtain⟨r,hr,rfl⟩:=List.mem_map.mp hq
 have h1:r.2%p≠0:=by simpa using (List.mem_filter.mp hr).2
 have h2:=Int.emod_nonneg r.2 (show p≠0 by omega)
 have h3:=Int.emod_lt_of_pos r.2 hp
 exact ⟨by omega,h3⟩
theorem A15 (p:Int) (ms:Ms):(modI p ms).length<=ms.length:=by
 unfold modI
 rw [List.length_map]
 exact List.length_filter_le ..
theorem Al4 {ms:Ms} (h:nz ms) {k:Int}:getI ms k≠0↔k∈Ay ms:=by
 constructor
 . intro hk
   by_cases hm:k∈ms.map (·.1)
   . exact hm
   . exact absurd (Dx hm) hk
 . intro hk hz
   have e:=At6 h k
   rw [if_pos hz] at e
   obtain⟨q,hq,rfl⟩:=List.mem_map.mp hk
   unfold Bd at e
   cases hf:ms.find? (fun p=>decide (p.1=q.1)) with
   | none=>exact absurd (List.find?_eq_none.mp hf q hq) (by simp)
   | some r=>rw [hf] at e;simp at e
theorem Iw (n:Int):∀ (ms:Ms) (k:Int),getI (A8 n ms) k=n*getI ms k:=fun ms k=>by
 unfold A8
 by_cases hn:n=0
 . rw [if_pos hn,hn];simp [getI,Bd]
 . rw [if_neg hn]
   induction ms with
   | nil=>simp [getI,Bd]
   | cons q ms ih =>
     rw [List.map_cons,E6,E6,ih]
     split<;>rfl
structure Top (ms:Ms) (b:Int):Prop where
 mem:b∈Ay ms
 le:∀ x∈Ay ms,x<=b
theorem Top.one {ms:Ms}{b c:Int} (h1:Top ms b) (h2:Top ms c):b=c:=by
 have:=h1.le c h2.mem
 have:=h2.le b h1.mem
 omega
theorem Yp {p f b:Int}{es fs:Ms} (hp:0<p) (he:OkM p es) (hf:OkM p fs) (te:Top es b) (tf:Top fs b) (hinv:p∣1-f*getI fs b) :
 OkM p (modI p (Do es (A8 (-(getI es b)*f) fs)))/\∀ x∈Ay (modI p (Do es (A8 (-(getI es b)*f) fs))),x<b/\(x∈Ay es\/x∈Ay fs):=by
 have ndt:nd (A8 (-(getI es b)*f) fs):=by
  unfold A8
  split
  . exact List.nodup_nil
  . exact Jm hf.nd _
 obtain⟨n1,n2,n3,n4⟩:=K0 (A8 (-(getI es b)*f) fs) es he.nd he.nz ndt
 have gt:∀ k,getI (A8 (-(getI es b)*f) fs) k=(-(getI es b)*f)*getI fs k:=fun k=>Iw _ fs k
 have ok:=Ai8 n1 hp
 refine⟨ok,fun x hx=>?_⟩
 have hx0:=(Al4 ok.nz).mpr hx
 rw [K2 n1,n4,gt] at hx0
 have hin:x∈Ay es\/x∈Ay fs:=by
  by_cases h1:x∈Ay es
  . exact .inl h1
  by_cases h2:x∈Ay fs
  . exact .inr h2
  . rw [Dx h1,Dx h2] at hx0
    simp at hx0
 refine⟨?_,hin⟩
 have hle:x<=b:=by
  rcases hin with h | h
  . exact te.le x h
  . exact tf.le x h
 have hne:x≠b:=fun z=>by
  rw [z] at hx0
  apply hx0
  obtain⟨d,hd⟩:=hinv
  have:getI es b+-getI es b*f*getI fs b=p*(getI es b*d):=by
   have e:getI es b+-getI es b*f*getI fs b=getI es b*(1-f*getI fs b):=by grind
   rw [e,hd];grind
  rw [this]
  exact Int.mul_emod_right _ _
 omega
end Hb
namespace L2
open PySem PySem.Spec PyProof.Rows PySem.W
section
variable {X:Cx}{J:XJ}{j k:Nat}{C:Addr}{ps:List Str}{sp:Sp}{m:Str}{pos apos:Pos}{e o:Expr}{es:List Expr}{ta:TE}{t:TA}
end
end L2
namespace L2
open PySem PySem.Spec PyProof.Rows PySem.SeqAt
section
variable {X:Cx}
section
variable {o e:Expr}{es:List Expr}{to:TE}{t:TA}{name:Str}{apos cpos:Pos}{id:String}{r:V->List V->Hp->VK->Prop}
end
end
end L2
namespace L2
open PySem PySem.Spec PyProof.Rows
def A25:Expr->Option Int
 | .Constant (.int i) _ _=>some i
 | _=>none
def W3:List Expr->Option (List Int)
 | []=>some []
 | e::es=>match A25 e,W3 es with
   | some i,some is=>some (i::is)
   | _,_=>none
def A57 (ns:List Int):TA:=fun _ H Q=>Q (ns.map V.int) H
theorem Ah5 {X:Cx}:∀{es:List Expr}{ns:List Int},W3 es=some ns->PA X es (A57 ns)
 | [],ns,h=>by
   cases h
   exact Ag
 | e::es,ns,h=>by
   unfold W3 at h
   cases e1:A25 e with
   | none=>rw [e1] at h;cases h
   | some i =>
     cases e2:W3 es with
     | none=>rw [e1,e2] at h;cases h
     | some is =>
       rw [e1,e2] at h
       cases h
       unfold A25 at e1
       split at e1
       case h_2=>cases e1
       case h_1 =>
        cases e1
        exact Ab Aj (Ah5 e2)
end L2
namespace L2
open PySem PySem.Spec PyProof.Rows
structure PAw (X:Cx) (es:List Expr) (t:TA):Prop where
 h:PA X es t
theorem Y8 {X:Cx}:PAw X [] tNil:=⟨Ag⟩
theorem Bn {X:Cx}{e:Expr}{es:List Expr}{te:TE}{t:TA} (ha:PE X e te) (hr:PAw X es t) (hs:starEach (e::es) X.env=(false,eval e X.env)::starEach es X.env:=by rfl):PAw X (e::es) (A62 te t):=⟨Ab ha hr.h hs⟩
theorem As4 {X:Cx}{es:List Expr}{ns:List Int} (h:W3 es=some ns):PAw X es (A57 ns):=⟨Ah5 h⟩
end L2
namespace Hb
open PySem L2
def Av5 (xs:List (List Int)):Prop:=∀ x∈xs,x.length=0\/x.length=2\/x.length=3\/x.length=4
theorem b5 {α:Type}{l:List α}{i:Nat}{d:α} (h:i<l.length):l.getD i d∈l:=by
 rw [List.getD_eq_getElem?_getD,List.getElem?_eq_getElem h]
 exact List.getElem_mem h
theorem Av5.at {xs:List (List Int)} (h:Av5 xs) {f:Int} (h0:0<=f) (h1:f<(xs.length:Int)):(xs.getD f.toNat []).length=0\/(xs.getD f.toNat []).length=2\/(xs.getD f.toNat []).length=3\/(xs.getD f.toNat []).length=4:=h _ (b5 (by omega))
section
variable (K:W.Frag)
end
end Hb
namespace Hb
open PySem L2
end Hb
namespace Hb
end Hb
namespace Hb
open PySem L2
theorem Gw {α:Type}{l:List α}{i:Nat}{d:α}:l.getD i d∈l\/l.getD i d=d:=by
 rw [List.getD_eq_getElem?_getD]
 by_cases h:i<l.length
 . rw [List.getElem?_eq_getElem h]
   exact .inl (List.getElem_mem h)
 . rw [List.getElem?_eq_none (by omega)]
   exact .inr rfl
section
variable {K:W.Frag}{H:Hp}
end
section
variable (K:W.Frag)
end
end Hb
namespace L2
open PySem PySem.Spec PyProof.Rows
abbrev TJ:=St->Hp->(Hp->Prop)->Prop
section
variable {X:Cx}{e v₁ v₂:Expr}{es rest:List Expr}{te:TE}{tj:TJ}{pos:Pos}
end
end L2
namespace Hb
open PySem L2
section
variable (K:W.Frag)
end
end Hb
namespace L2
open PySem PySem.Spec PyProof.Rows PySem.SeqAt
section
variable {X:Cx}{n:Nat}{K:W.Frag}
theorem Ap0 (hc:X.calm=true):Du X (.builtin "any") (fun xs H Q=>∃ (p:Addr) (bs:List Bool),xs=[.ref p]/\SqL X.K H p (bs.map V.bl)/\Q (.bl (bs.any id)) H):=by
 intro Aa s σ H xs us Q I r h
 obtain⟨p,bs,rfl,hq,q⟩:=h
 obtain⟨u,rfl,ru⟩:=Mc r
 cases ru
 obtain⟨its,rv,pl,hz⟩:=I.list hq
 have hh:X.A.handled=none:=I.ok.hd hc
 have rel:∀ (i:Nat) (v:Value),its.toArray[i]?=some v->∃ b,bs[i]?=some b/\v=.bool b:=fun i v e=>by
  have e':its[i]?=some v:=by simpa using e
  have hlt:i<its.length:=(List.getElem?_eq_some_iff.mp e').1
  have l1:=rv.length
  rw [List.length_map] at l1
  have hb:bs[i]?=some (bs[i]'(by omega)):=by simp<;>omega
  obtain⟨u,hu,ru⟩:=rv.get (i:=i) (x:=V.bl (bs[i]'(by omega))) (by rw [List.getElem?_map,hb];rfl)
  rw [e'] at hu
  cases hu
  exact ⟨_,hb,ru⟩
 refine call_any_walk (wpAny_pyIter_list pl.isList ?_)
 refine⟨s.heap.objs.size,[s.heap.objs.size,p],[s.heap.objs.size],its.toArray.size,_,_,fun i=>(bs[i]?).getD false,rfl,Walks.list (show X.A.in1.handled=none from hh) s.heap.objs.size p ?_ its.toArray,⟨⟨_,Heap.get?_push_size _ rfl,rfl,rfl⟩,?_⟩,?_,fun h' tk k=>?_⟩
 . obtain⟨o,_,ho,_⟩:=pl
   exact Nat.ne_of_lt (Heap.lt_size ho)
 . exact pl.isList.at fun o e=>Heap.get?_push_of_some _ e
 . intro i v s' Q' E' hv hQ
   obtain⟨b,hb,rfl⟩:=rel i v hv
   dsimp only at hQ
   rw [hb] at hQ
   exact wpAny_truthy_bool hQ
 . have e:(List.range its.toArray.size).any (fun i=>(bs[i]?).getD false)=bs.any id:=by
    have l1:=rv.length
    rw [List.length_map] at l1
    rw [List.size_toArray,←l1]
    rw [Bool.eq_iff_iff,List.any_eq_true,List.any_eq_true]
    constructor
    . rintro ⟨i,hi,hx⟩
      have hlt:=List.mem_range.mp hi
      have hb:bs[i]?=some bs[i]:=by simp
      rw [hb] at hx
      exact ⟨_,List.getElem_mem hlt,hx⟩
    . rintro ⟨b,hb,hx⟩
      obtain⟨i,hi⟩:=List.getElem?_of_mem hb
      refine⟨i,List.mem_range.mpr (List.getElem?_eq_some_iff.mp hi).1,?_⟩
      rw [hi]
      exact hx
   rw [e]
   have I1:Inv X Aa σ H { s with heap:=h',toks:=tk }:=I.kept (fun b o e=>k b o (by simp;exact Nat.ne_of_lt (Heap.lt_size e)) (Heap.get?_push_of_some _ e))
   exact ⟨.bl (bs.any id),H,I1,rfl,q⟩
theorem Ap4:bootBuiltins "any"=some (.builtin "any"):=by decide +kernel
theorem Ab6 (hc:X.calm=true) (hK:X.K=K:=by rfl):Du X (.builtin "any") (fun xs H Q=>∃ (p:Addr) (bs:List Bool),xs=[.ref p]/\SqL K H p (bs.map V.bl)/\Q (.bl (bs.any id)) H):=by subst hK;exact Ap0 hc
end
end L2
namespace L2
open PySem PySem.Spec PyProof.Rows
section
variable {prog:Program}{w:World}{A:Around}{E:Value->Shared->Prop}{s:Shared}
theorem E3 {j t:Addr}{n:Nat}{vs:Array Value}{x:Value}{Q:Value->Shared->Prop} (g:s.heap.IsTupleIter j t n) (gt:s.heap.IsTuple t vs) (gx:vs[n]?=some x)
 (k:∀ h',h'.IsTupleIter j t (n+1)->Heap.SameBut j s.heap h'->Q x { s with heap:=h' }):wpAny (model prog w) A (Builtin.SmallTypes.nextOf (.ref j)) Q E s:=by
 obtain⟨o,q1,q2,q3⟩:=id g
 obtain⟨p,p1,_,m,p2⟩:=gt
 unfold Builtin.SmallTypes.nextOf;refine wpAny_bind (wpAny_callSpecial?_slot (name:=Str.ofString "__next__") g.typeIs F.slot_tuple_iterator_next (wpAny_call_entry F.slot_tuple_iterator_next g.typeIs F.entry_tuple_iterator_next ?_ (F.args_tuple_iterator_next_1 _)))
 show wpAny _ _ (field (.ref j) 0>>=_) _ _ s;refine wpAny_bind (wpAny_field q1 q3 (x:=.ref t) rfl ?_)
 show wpAny _ _ (if (Value.ref t==Value.none)=true then _ else _) _ _ s;rw [if_neg (show ¬((Value.ref t==Value.none)=true) from Bool.false_ne_true)]
 show wpAny _ _ (field (.ref j) 1>>=_) _ _ s;refine wpAny_bind (wpAny_field q1 q3 (x:=.int n 0) rfl ?_)
 show wpAny _ _ (seqItems? (.ref t)>>=_) _ _ s;refine wpAny_bind (wpAny_seqItems p1 p2 ?_)
 simp only [Int.toNat_natCast,gx]
 refine wpAny_bind (wpAny_setField q1 q3 (by simp) (wpAny_pure ⟨x,rfl,wpAny_pure (k _ ?_ (Heap.SameBut.update ..))⟩))
 exact ⟨_,Heap.get?_update_self _ q1 (Obj.isFreed_of_fields (Obj.data_mapFields q3 _)),(Obj.cls_mapFields ..).trans q2,by rw [Obj.data_mapFields q3];simp [rawInt]⟩
theorem Ki {j t:Addr}{n:Nat}{vs:Array Value}{Q:Value->Shared->Prop} (hn:A.handled=none) (g:s.heap.IsTupleIter j t n) (gt:s.heap.IsTuple t vs) (gx:vs[n]?=none)
 (k:∀ h' e,Heap.ExtBut j s.heap h'->(∃ o,h'.get? e=some o/\o.cls=.type "StopIteration")->E (.ref e) { s with heap:=h' }):wpAny (model prog w) A (Builtin.SmallTypes.nextOf (.ref j)) Q E s:=by
 obtain⟨o,q1,q2,q3⟩:=id g
 obtain⟨p,p1,_,m,p2⟩:=gt
 unfold Builtin.SmallTypes.nextOf;refine wpAny_bind (wpAny_callSpecial?_slot (name:=Str.ofString "__next__") g.typeIs F.slot_tuple_iterator_next (wpAny_call_entry F.slot_tuple_iterator_next g.typeIs F.entry_tuple_iterator_next ?_ (F.args_tuple_iterator_next_1 _)))
 show wpAny _ _ (field (.ref j) 0>>=_) _ _ s;refine wpAny_bind (wpAny_field q1 q3 (x:=.ref t) rfl ?_)
 show wpAny _ _ (if (Value.ref t==Value.none)=true then _ else _) _ _ s;rw [if_neg (show ¬((Value.ref t==Value.none)=true) from Bool.false_ne_true)]
 show wpAny _ _ (field (.ref j) 1>>=_) _ _ s;refine wpAny_bind (wpAny_field q1 q3 (x:=.int n 0) rfl ?_)
 show wpAny _ _ (seqItems? (.ref t)>>=_) _ _ s;refine wpAny_bind (wpAny_seqItems p1 p2 ?_)
 simp only [Int.toNat_natCast,gx]
 refine wpAny_bind (wpAny_rule (wpAny_bind (wpAny_setField q1 q3 (by simp) ?_)))
 show wpAny _ _ (newExc (.type "StopIteration") []>>=_) _ _ _;refine wpAny_bind ?_
 simp only [newExc,newTuple];refine wpAny_bind (wpAny_newObj_type ?_ (by size_fits))
 refine wpAny_bind (m:=firstArgMember _ _) (wpAny_of_eq (a:=Value.none) (by first | rfl | (simp only [firstArgMember];rfl)) ?_);refine wpAny_newObj_type ?_ (by size_fits)
 simp only [raiseNew];refine wpAny_bind (wpAny_handled ?_)
 first | rw [show A.in1.handled=none from hn] | rw [hn]
 refine wpAny_bind (wpAny_pure (wpAny_throw ?_));exact k _ _ (((Heap.SameBut.update ..).extBut.push _).push _) ⟨_,Heap.get?_push_size _ rfl,rfl⟩
theorem Ae6 {z a b i1 i2 t1 t2:Addr}{n m:Nat}{xs ys:Array Value}{x y u v:Value}{Q:Value->Shared->Prop} (D:ZipApart z a b i1 i2 t1 t2) (gz:IsZip s.heap z a b .none) (ga:IsPair s.heap a (.ref i1) (.ref i2)) (gb:IsPair s.heap b u v)
 (g1:s.heap.IsTupleIter i1 t1 n) (g2:s.heap.IsTupleIter i2 t2 m) (e1:s.heap.IsTuple t1 xs) (e2:s.heap.IsTuple t2 ys) (gx:xs[n]?=some x) (gy:ys[m]?=some y)
 (k:∀ h',IsZip h' z a b (rawInt s.heap.objs.size)->IsPair h' b x y->h'.IsTupleIter i1 t1 (n+1)->h'.IsTupleIter i2 t2 (m+1)->IsPair h' s.heap.objs.size x y->h'.objs.size=s.heap.objs.size+1 →
   (∀ c o,c≠z->c≠b->c≠i1->c≠i2->s.heap.get? c=some o->h'.get? c=some o)->Q (.ref s.heap.objs.size) { s with heap:=h' }) :
 wpAny (model prog w) A (Builtin.«zip.__next__» ⟨[.ref z],[]⟩) (fun fin s'=>∃ r,fin=.done (.ret r)/\Q r s') E s:=by
 show wpAny _ _ (field (.ref z) 2>>=_) _ _ _;refine wpAny_bind (wpAny_field gz rfl (x:=.bool false) rfl ?_)
 show wpAny _ _ (field (.ref z) 3>>=_) _ _ _;refine wpAny_bind (wpAny_field gz rfl (x:=.ref a) rfl ?_)
 refine wpAny_bind (wpAny_seqItems ga rfl ?_)
 show wpAny _ _ (Builtin.SmallTypes.ownedTupleIsFree (.ref z)>>=_) _ _ _;refine wpAny_bind ?_;unfold Builtin.SmallTypes.ownedTupleIsFree
 refine wpAny_bind (wpAny_field gz rfl (x:=.none) rfl (wpAny_pure ?_));simp only [if_true]
 refine wpAny_bind (wpAny_rule ?_);refine wpAny_bind (wpAny_field gz rfl (x:=.ref b) rfl ?_)
 refine wpAny_bind (wpAny_setField_rec gz (by simp) fun k1 gz1 w1=>?_)
 replace gz1:IsZip k1 z a b .ellipsis:=gz1
 refine wpAny_bind ?_;simp only [List.zipIdx_cons,List.zipIdx_nil,List.forIn_cons,List.forIn_nil]
 refine wpAny_bind (wpAny_bind (wpAny_onRaise ?_));show wpAny _ _ (Builtin.SmallTypes.nextOf (.ref i1)>>=_) _ _ _
 refine wpAny_bind (E3 (g1.extBut w1.extBut D.i1z) (e1.extBut w1.extBut D.l1z) gx fun k2 f1 w2=>wpAny_pure ?_)
 have gb2:IsPair k2 b u v:=w2.extBut _ _ D.TOi1 (w1.extBut _ _ D.TOz gb)
 refine wpAny_bind (wpAny_seqItems gb2 rfl ?_);refine wpAny_bind (wpAny_updateSeq_pair gb2 fun k3 gb3 w3=>?_)
 replace gb3:IsPair k3 b x v:=gb3
 refine wpAny_bind (wpAny_letGo (wpAny_pure ?_));refine wpAny_bind (wpAny_bind (wpAny_onRaise ?_));show wpAny _ _ (Builtin.SmallTypes.nextOf (.ref i2)>>=_) _ _ _
 refine wpAny_bind (E3 (((g2.extBut w1.extBut D.i2z).extBut w2.extBut D.i12.symm).extBut w3.extBut D.TOi2.symm) (((e2.extBut w1.extBut D.l2z).extBut w2.extBut D.l2i1).extBut w3.extBut D.l2TO) gy fun k4 f2 w4=>wpAny_pure ?_)
 have gb4:IsPair k4 b x v:=w4.extBut _ _ D.TOi2 gb3
 refine wpAny_bind (wpAny_seqItems gb4 rfl ?_);refine wpAny_bind (wpAny_updateSeq_pair gb4 fun k5 gb5 w5=>?_)
 replace gb5:IsPair k5 b x y:=gb5
 refine wpAny_bind (wpAny_letGo (wpAny_pure (wpAny_pure ?_)));refine wpAny_bind (wpAny_seqItems gb5 rfl ?_);refine wpAny_bind (wpAny_newTuple ?_)
 have sz:k5.objs.size=s.heap.objs.size:=by rw [w5.1,w4.1,w3.1,w2.1,w1.1]
 have gz5:IsZip k5 z a b .ellipsis:=w5.extBut _ _ D.TOz.symm (w4.extBut _ _ D.i2z.symm (w3.extBut _ _ D.TOz.symm (w2.extBut _ _ D.i1z.symm gz1)))
 have kp:∀ c o,c≠z->c≠b->c≠i1->c≠i2->s.heap.get? c=some o->k5.get? c=some o:=fun c o c1 c2 c3 c4 e=>w5.extBut _ _ c2 (w4.extBut _ _ c4 (w3.extBut _ _ c2 (w2.extBut _ _ c3 (w1.extBut _ _ c1 e))))
 have f15:k5.IsTupleIter i1 t1 (n+1):=((f1.extBut w3.extBut D.TOi1.symm).extBut w4.extBut D.i12).extBut w5.extBut D.TOi1.symm
 have f25:k5.IsTupleIter i2 t2 (m+1):=f2.extBut w5.extBut D.TOi2.symm
 have lz:z<k5.objs.size:=Heap.lt_size gz5
 show wpAny _ _ (Builtin.SmallTypes.ownedTupleHandOut (.ref z) (.ref k5.objs.size)>>=_) _ _ _;refine wpAny_bind ?_;unfold Builtin.SmallTypes.ownedTupleHandOut
 have gz6:IsZip (k5.push { cls:=.type "tuple",data:=.seq #[x,y] }) z a b .ellipsis:=Heap.get?_push_of_some _ gz5
 refine wpAny_bind (wpAny_setField_rec gz6 (by simp) fun k7 gz7 w7=>?_)
 replace gz7:IsZip k7 z a b (rawInt k5.objs.size):=gz7
 refine wpAny_setField_rec gz7 (by simp) fun k8 gz8 w8=>?_
 replace gz8:IsZip k8 z a b (rawInt k5.objs.size):=gz8
 have up:∀ c o,c≠z->k5.get? c=some o->k8.get? c=some o:=fun c o c1 e=>w8.extBut _ _ c1 (w7.extBut _ _ c1 (Heap.get?_push_of_some _ e))
 have gt:IsPair k8 k5.objs.size x y:=w8.extBut _ _ (Nat.ne_of_gt lz) (w7.extBut _ _ (Nat.ne_of_gt lz) (Heap.get?_push_size _ rfl))
 have s8:k8.objs.size=k5.objs.size+1:=by rw [w8.1,w7.1,Heap.size_push]
 rw [sz] at gz8 gt s8
 refine wpAny_pure ⟨_,rfl,?_⟩;show Q (.ref k5.objs.size) _;rw [sz]
 exact k k8 gz8 (up _ _ D.TOz gb5) (f15.at fun o e=>up _ o D.i1z e) (f25.at fun o e=>up _ o D.i2z e) gt s8 fun c o c1 c2 c3 c4 e=>up c o c1 (kp c o c1 c2 c3 c4 e)
theorem Aq3 {z a b i1 i2 t1 t2:Addr}{n m:Nat}{xs ys:Array Value}{u v:Value}{Q:PySem.Fin->Shared->Prop} (hn:A.handled=none) (D:ZipApart z a b i1 i2 t1 t2) (gz:IsZip s.heap z a b .none) (ga:IsPair s.heap a (.ref i1) (.ref i2)) (gb:IsPair s.heap b u v)
 (g1:s.heap.IsTupleIter i1 t1 n) (g2:s.heap.IsTupleIter i2 t2 m) (e1:s.heap.IsTuple t1 xs) (e2:s.heap.IsTuple t2 ys) (gx:xs[n]?=none)
 (k:∀ h' e,(∀ c o,c≠z->c≠b->c≠i1->c≠i2->s.heap.get? c=some o->h'.get? c=some o)->(∃ o,h'.get? e=some o/\o.cls=.type "StopIteration")->E (.ref e) { s with heap:=h' }) :
 wpAny (model prog w) A (Builtin.«zip.__next__» ⟨[.ref z],[]⟩) Q E s:=by
 show wpAny _ _ (field (.ref z) 2>>=_) _ _ _;refine wpAny_bind (wpAny_field gz rfl (x:=.bool false) rfl ?_)
 show wpAny _ _ (field (.ref z) 3>>=_) _ _ _;refine wpAny_bind (wpAny_field gz rfl (x:=.ref a) rfl ?_)
 refine wpAny_bind (wpAny_seqItems ga rfl ?_)
 show wpAny _ _ (Builtin.SmallTypes.ownedTupleIsFree (.ref z)>>=_) _ _ _;refine wpAny_bind ?_;unfold Builtin.SmallTypes.ownedTupleIsFree
 refine wpAny_bind (wpAny_field gz rfl (x:=.none) rfl (wpAny_pure ?_));simp only [if_true]
 refine wpAny_bind (wpAny_rule ?_);refine wpAny_bind (wpAny_field gz rfl (x:=.ref b) rfl ?_)
 refine wpAny_bind (wpAny_setField_rec gz (by simp) fun k1 gz1 w1=>?_)
 replace gz1:IsZip k1 z a b .ellipsis:=gz1
 refine wpAny_bind ?_;simp only [List.zipIdx_cons,List.zipIdx_nil,List.forIn_cons,List.forIn_nil]
 refine wpAny_bind (wpAny_bind (wpAny_onRaise ?_));show wpAny _ _ (Builtin.SmallTypes.nextOf (.ref i1)>>=_) _ _ _
 refine wpAny_bind (Ki hn (g1.extBut w1.extBut D.i1z) (e1.extBut w1.extBut D.l1z) gx fun k2 e w2 he=>?_)
 obtain⟨oe,ge,ce⟩:=he
 have gz2:IsZip k2 z a b .ellipsis:=w2 _ _ D.i1z.symm gz1
 have ne:e≠z:=fun q=>by subst q;rw [gz2] at ge;cases ge;simp at ce
 refine wpAny_setField_rec gz2 (by simp) fun k3 _ w3=>k k3 e (fun c o c1 _ c3 _ q=>w3.extBut _ _ c1 (w2 _ _ c3 (w1.extBut _ _ c1 q))) ⟨oe,w3.extBut _ _ ne ge,ce⟩
theorem R3 {z a b i1 i2 t1 t2:Addr}{n m:Nat}{xs ys:Array Value}{x y u v:Value}{Q:Option Value->Shared->Prop} (D:ZipApart z a b i1 i2 t1 t2) (gz:IsZip s.heap z a b .none) (ga:IsPair s.heap a (.ref i1) (.ref i2)) (gb:IsPair s.heap b u v)
 (g1:s.heap.IsTupleIter i1 t1 n) (g2:s.heap.IsTupleIter i2 t2 m) (e1:s.heap.IsTuple t1 xs) (e2:s.heap.IsTuple t2 ys) (gx:xs[n]?=some x) (gy:ys[m]?=some y)
 (k:∀ h',IsZip h' z a b (rawInt s.heap.objs.size)->IsPair h' b x y->h'.IsTupleIter i1 t1 (n+1)->h'.IsTupleIter i2 t2 (m+1)->IsPair h' s.heap.objs.size x y->h'.objs.size=s.heap.objs.size+1 →
   (∀ c o,c≠z->c≠b->c≠i1->c≠i2->s.heap.get? c=some o->h'.get? c=some o)->Q (some (.ref s.heap.objs.size)) { s with heap:=h' }):wpAny (model prog w) A (pyNext (.ref z)) Q E s:=by
 have ht:s.TypeIs (.ref z) "zip":=⟨_,gz,rfl⟩
 unfold pyNext
 exact wpAny_bind (wpAny_attempt (wpAny_callSpecial?_slot (name:=Str.ofString "__next__") ht F.slot_zip_next (wpAny_call_entry F.slot_zip_next ht F.entry_zip_next (Ae6 D gz ga gb g1 g2 e1 e2 gx gy fun h' a1 a2 a3 a4 a5 a6 a7=>wpAny_pure (k h' a1 a2 a3 a4 a5 a6 a7)) (F.args_zip_next_1 _))))
theorem Uw {z a b i1 i2 t1 t2:Addr}{n m:Nat}{xs ys:Array Value}{u v:Value}{Q:Option Value->Shared->Prop} (hn:A.handled=none) (D:ZipApart z a b i1 i2 t1 t2) (gz:IsZip s.heap z a b .none) (ga:IsPair s.heap a (.ref i1) (.ref i2)) (gb:IsPair s.heap b u v)
 (g1:s.heap.IsTupleIter i1 t1 n) (g2:s.heap.IsTupleIter i2 t2 m) (e1:s.heap.IsTuple t1 xs) (e2:s.heap.IsTuple t2 ys) (gx:xs[n]?=none)
 (k:∀ h',(∀ c o,c≠z->c≠b->c≠i1->c≠i2->s.heap.get? c=some o->h'.get? c=some o)->Q none { s with heap:=h' }):wpAny (model prog w) A (pyNext (.ref z)) Q E s:=by
 have ht:s.TypeIs (.ref z) "zip":=⟨_,gz,rfl⟩
 unfold pyNext
 refine wpAny_bind (wpAny_attempt (wpAny_callSpecial?_slot (name:=Str.ofString "__next__") ht F.slot_zip_next (wpAny_call_entry F.slot_zip_next ht F.entry_zip_next (Aq3 hn D gz ga gb g1 g2 e1 e2 gx fun h' e kp he=>?_) (F.args_zip_next_1 _))))
 obtain⟨o,q1,q2⟩:=he
 exact wpAny_bind (wpAny_isInstance (T:="StopIteration") (b:=true) ⟨o,q1,q2⟩ isSubtype_stop (wpAny_pure (k _ kp)))
end
abbrev zt1 (h:Heap) (a:Addr):Heap:=h.push { cls:=.type "tuple_iterator",data:=.fields #[.ref a,.int 0 0] }
abbrev zt2 (h:Heap) (a b:Addr):Heap:=(zt1 h a).push { cls:=.type "tuple_iterator",data:=.fields #[.ref b,.int 0 0] }
abbrev zt3 (h:Heap) (a b:Addr):Heap:=(zt2 h a b).push { cls:=.type "tuple",data:=.seq #[.ref h.objs.size,.ref (zt1 h a).objs.size] }
abbrev zt4 (h:Heap) (a b:Addr):Heap:=(zt3 h a b).push { cls:=.type "tuple",data:=.seq #[.none,.none] }
abbrev zt5 (h:Heap) (a b:Addr):Heap:=(zt4 h a b).push { cls:=.type "zip",data:=.fields #[.none,.bool false,.bool false,.ref (zt2 h a b).objs.size,.ref (zt3 h a b).objs.size] }
theorem Aq2 (a b:Addr) (xs ys:Array Value):Meets (Builtin.«zip.__new__» ⟨[.type "zip",.ref a,.ref b],[]⟩) (fun _ R s=>s.heap.IsTuple a xs/\s.heap.IsTuple b ys/\R (.ok (.ret (.ref (zt4 s.heap a b).objs.size))) { s with heap:=zt5 s.heap a b }) :=
 .of_wp fun prog w A R s h=>by
  obtain⟨hp,g,d,tk,os⟩:=s;obtain⟨h1,h2,h⟩:=h
  have hsub:=sub_zip
  have g1:Heap.IsTuple (Shared.heap ⟨hp,g,d,tk,os⟩) a xs:=h1
  have g2:Heap.IsTuple (Shared.heap ⟨hp.push { cls:=.type "tuple_iterator",data:=.fields #[.ref a,.int 0 0] },g,d,tk,os⟩) b ys:=Heap.IsTuple.push h2 _
  wp_walk using wpAny_pyIter_tuple g1,wpAny_pyIter_tuple g2
  exact ⟨_,rfl,h⟩
section
variable {prog:Program}{w:World}{A:Around}{E:Value->Shared->Prop}{s:Shared}
theorem Ao6 {a b:Addr}{xs ys:Array Value}{Q:Value->Shared->Prop} (h1:s.heap.IsTuple a xs) (h2:s.heap.IsTuple b ys)
 (k:∀ h',IsZip h' (s.heap.objs.size+4) (s.heap.objs.size+2) (s.heap.objs.size+3) .none->IsPair h' (s.heap.objs.size+2) (.ref s.heap.objs.size) (.ref (s.heap.objs.size+1)) →
   IsPair h' (s.heap.objs.size+3) .none .none->h'.IsTupleIter s.heap.objs.size a 0->h'.IsTupleIter (s.heap.objs.size+1) b 0->h'.objs.size=s.heap.objs.size+5 →
   (∀ c o,s.heap.get? c=some o->h'.get? c=some o)->Q (.ref (s.heap.objs.size+4)) { s with heap:=h' }):wpAny (model prog w) A (call (.type "zip") [.ref a,.ref b]) Q E s:=by
 refine callType_new F.called_zip (by decide) (F.typeCall_zip_2 _ _) (F.newCall_zip_2 _ _) (fun obj=>F.args_object_init_3 obj _ _) F.entry_zip_new (Aq2 a b xs ys) ⟨h1,h2,?_⟩
 have z1:(zt1 s.heap a).objs.size=s.heap.objs.size+1:=Heap.size_push ..
 have z2:(zt2 s.heap a b).objs.size=s.heap.objs.size+2:=by rw [Heap.size_push,z1]
 have z3:(zt3 s.heap a b).objs.size=s.heap.objs.size+3:=by rw [Heap.size_push,z2]
 have z4:(zt4 s.heap a b).objs.size=s.heap.objs.size+4:=by rw [Heap.size_push,z3]
 have z5:(zt5 s.heap a b).objs.size=s.heap.objs.size+5:=by rw [Heap.size_push,z4]
 have q5:(zt5 s.heap a b).get? (zt4 s.heap a b).objs.size=some _:=Heap.get?_push_size _ rfl
 have q4:(zt5 s.heap a b).get? (zt3 s.heap a b).objs.size=some _:=Heap.get?_push_of_some _ (Heap.get?_push_size _ rfl)
 have q3:(zt5 s.heap a b).get? (zt2 s.heap a b).objs.size=some _:=Heap.get?_push_of_some _ (Heap.get?_push_of_some _ (Heap.get?_push_size _ rfl))
 have q2:(zt5 s.heap a b).get? (zt1 s.heap a).objs.size=some _:=Heap.get?_push_of_some _ (Heap.get?_push_of_some _ (Heap.get?_push_of_some _ (Heap.get?_push_size _ rfl)))
 have q1:(zt5 s.heap a b).get? s.heap.objs.size=some _:=Heap.get?_push_of_some _ (Heap.get?_push_of_some _ (Heap.get?_push_of_some _ (Heap.get?_push_of_some _ (Heap.get?_push_size _ rfl))))
 show _/\_
 rw [z2,z3,z4] at q5
 rw [z1,z2] at q3
 rw [z3] at q4
 rw [z1] at q2
 rw [z4]
 exact ⟨⟨_,q5,rfl⟩,k _ q5 q3 q4 ⟨_,q1,rfl,rfl⟩ ⟨_,q2,rfl,rfl⟩ z5 fun c o x=>Heap.get?_push_of_some _ (Heap.get?_push_of_some _ (Heap.get?_push_of_some _ (Heap.get?_push_of_some _ (Heap.get?_push_of_some _ x))))⟩
end
def Ityp (K:W.Frag) (a b:Addr):It :=
 ⟨fun i H=>∃ xs ys x y,SqT K H a xs/\SqT K H b ys/\xs[i]?=some x/\ys[i]?=some y,
  fun i H v H'=>∃ p x y,H p=none/\v=.ref p/\H'=upd H p (.tup [x,y])/\(∀ xs,SqT K H a xs->xs[i]?=some x)/\∀ ys,SqT K H b ys->ys[i]?=some y,
  fun i H=>∃ xs ys,SqT K H a xs/\SqT K H b ys/\xs.length<=i⟩
theorem Ae8 {P:Program}{w:World}{K:W.Frag}{es:List Expr}{x1:Nat}{tpos:Pos} (a b z TI TO i1 i2:Addr) (D:ZipApart z TI TO i1 i2 a b) :
 Turn P w K (.Tuple es x1 tpos) (Ityp K a b) [z,TI,TO,i1,i2] z (fun i h=>IsZip h z TI TO .none/\IsPair h TI (.ref i1) (.ref i2)/\(∃ c d,IsPair h TO c d)/\h.IsTupleIter i1 a i/\h.IsTupleIter i2 b i) where
 mem:=by simp
 obj:=fun i h st c hc=>by
  obtain⟨hz,hTI,⟨u,v,hTO⟩,⟨o1,h1,c1,d1⟩,⟨o2,h2,c2,d2⟩⟩:=st
  simp only [List.mem_cons,List.not_mem_nil,or_false] at hc
  rcases hc with rfl | rfl | rfl | rfl | rfl
  . exact ⟨_,hz,fun v q=>by cases (show Data.fields _=Data.cell v from q)⟩
  . exact ⟨_,hTI,fun v q=>by cases (show Data.seq _ _=Data.cell v from q)⟩
  . exact ⟨_,hTO,fun v q=>by cases (show Data.seq _ _=Data.cell v from q)⟩
  . exact ⟨o1,h1,fun v q=>by rw [d1] at q;cases q⟩
  . exact ⟨o2,h2,fun v q=>by rw [d2] at q;cases q⟩
 keep:=fun i h h' st k=>by
  obtain⟨hz,hTI,⟨u,v,hTO⟩,h1,h2⟩:=st
  exact ⟨k z (by simp) _ hz,k TI (by simp) _ hTI,⟨u,v,k TO (by simp) _ hTO⟩,h1.at fun o q=>k i1 (by simp) o q,h2.at fun o q=>k i2 (by simp) o q⟩
 item:=by
  intro X hP hw hK hc i Aa s σ H E I hf st hg
  subst hP hw hK
  obtain⟨hz,hTI,⟨u0,v0,hTO⟩,h1,h2⟩:=st
  obtain⟨xs,ys,x,y,hqa,hqb,hx,hy⟩:=hg
  obtain⟨ia,ra,pa,_⟩:=I.tuple hqa
  obtain⟨ib,rb,pb,_⟩:=I.tuple hqb
  obtain⟨u,hu,ru⟩:=ra.get hx
  obtain⟨v,hv,rv⟩:=rb.get hy
  have hfresh:H s.heap.objs.size=none:=I.hok.fresh (Nat.le_refl _)
  have ltz:=Heap.lt_size hz
  refine R3 D hz hTI hTO h1 h2 (show s.heap.IsTuple a ia.toArray from pa) (show s.heap.IsTuple b ib.toArray from pb) (x:=u) (y:=v) (by simpa using hu) (by simpa using hv) fun h' hz' hTO' h1' h2' htup hsz hk=>?_
  refine⟨_,rfl,wpAny_letOwnedTupleGo_zip hz' fun h3 hz3 hsb=>?_⟩
  replace hsb:Heap.SameBut z h' h3:=hsb
  have kk:∀ c o,c ∉ [z,TI,TO,i1,i2]->s.heap.get? c=some o->h3.get? c=some o:=fun c o hc e=>by
   simp only [List.mem_cons,List.not_mem_nil,or_false,not_or] at hc
   obtain⟨n1,n2,n3,n4,n5⟩:=hc
   exact (hsb.2 c n1).trans (hk c o n1 n3 n4 n5 e)
  have ht3:h3.get? s.heap.objs.size=some { cls:=.type "tuple",data:=.seq #[u,v] }:=(hsb.2 _ (Nat.ne_of_gt ltz)).trans htup
  have hi1:h3.IsTupleIter i1 a (i+1):=h1'.at fun o e=>(hsb.2 i1 D.i1z).trans e
  have hi2:h3.IsTupleIter i2 b (i+1):=h2'.at fun o e=>(hsb.2 i2 D.i2z).trans e
  have hTI3:IsPair h3 TI (.ref i1) (.ref i2):=(hsb.2 TI D.TIz).trans (hk _ _ D.TIz D.TITO D.TIi1 D.TIi2 hTI)
  have hTO3:IsPair h3 TO u v:=(hsb.2 TO D.TOz).trans hTO'
  have ntr:∀ c o,H c=some o->c ∉ [z,TI,TO,i1,i2]:=fun c o e hm=>by rw [(hf c hm).1] at e;cases e
  have nsz:∀ c o,H c=some o->c≠s.heap.objs.size:=fun c o e=>Al e hfresh
  refine⟨.ref s.heap.objs.size,upd H s.heap.objs.size (.tup [x,y]),?_,rfl,⟨s.heap.objs.size,x,y,hfresh,rfl,rfl,fun zs q=>by rw [I.tuple_inj q hqa];exact hx,fun zs q=>by rw [I.tuple_inj q hqb];exact hy⟩,⟨hz3,hTI3,⟨_,_,hTO3⟩,hi1,hi2⟩,fun c hc=>?_⟩
  . refine Inv.step (s:=s) (h':=h3) (t':=s.toks) (H':=upd H s.heap.objs.size (.tup [x,y])) I (g':=s.gens) (d':=s.drawn) (ch:=[z,TI,TO,i1,i2]) (fun c hc=>?_) (fun c o _ _ hc e _=>kk c o hc e) (fun c o _ _ hc e _=>⟨o.slots,kk c o hc e⟩) (fun c o hc e n=>?_) (fun c o hc e=>⟨o,kk c o hc e⟩)
     (fun c zs e=>by rw [Ae (nsz c _ e)];exact e) (fun c o w' e=>by rw [Ae (nsz c _ e)];exact e) (fun c ps e=>⟨#[],by rw [Ae (nsz c _ e),e];simp⟩) (fun m hm=>?_) (fun c w' e=>?_) I.bare
    . have f:=hf c hc
      exact ⟨f.2.2.2.1,f.2.1,f.2.2.2.2.1,f.2.2.2.2.2⟩
    . rw [Ae (Nat.ne_of_lt (Heap.lt_size e))]
      exact n
    . obtain⟨o,es',ep,ho,r⟩:=hm
      exact ⟨o,es',ep,kk _ o (fun q=>(hf _ q).2.1 rfl) ho,r⟩
    . by_cases hcs:c=s.heap.objs.size
      . subst hcs
        rw [Ac] at e
        cases e
        exact ⟨(by show (2:Nat)<=sizeLine;decide),[u,v],.cons ru (.cons rv .nil),⟨_,ht3,rfl,rfl,_,rfl⟩⟩
      . rw [Ae hcs] at e
        refine (I.hok c w' e).stay (fun c' y' hc' q=>?_) (fun c' q=>by rw [Ae (nsz c' _ q)];exact q) fun c' zs q=>by rw [Ae (nsz c' _ q)];exact q
        rcases hc' with rfl | hc'
        . exact kk _ _ (ntr _ _ e) q
        . exact kk _ _ (ntr _ _ hc') q
  . have lb:c<s.heap.objs.size:=by
     simp only [List.mem_cons,List.not_mem_nil,or_false] at hc
     obtain⟨o1,q1,_⟩:=h1
     obtain⟨o2,q2,_⟩:=h2
     rcases hc with rfl | rfl | rfl | rfl | rfl
     . exact ltz
     . exact Heap.lt_size hTI
     . exact Heap.lt_size hTO
     . exact Heap.lt_size q1
     . exact Heap.lt_size q2
    rw [Ae (Nat.ne_of_lt lb)]
    exact (hf c hc).1
 done:=by
  intro X hP hw hK hc i Aa s σ H E I hf st hg
  subst hP hw hK
  obtain⟨hz,hTI,⟨u0,v0,hTO⟩,h1,h2⟩:=st
  obtain⟨xs,ys,hqa,hqb,hx⟩:=hg
  obtain⟨ia,ra,pa,_⟩:=I.tuple hqa
  obtain⟨ib,rb,pb,_⟩:=I.tuple hqb
  have la:=ra.length
  have lb:=rb.length
  refine Uw (I.ok.hd hc) D hz hTI hTO h1 h2 (show s.heap.IsTuple a ia.toArray from pa) (show s.heap.IsTuple b ib.toArray from pb) ?_ fun h' hk=>⟨rfl,I.turnedN (t':=s.toks) (fp:=[z,TI,TO,i1,i2]) (fun c o hc e=>?_) hf⟩
  . simp;omega
  . simp only [List.mem_cons,List.not_mem_nil,or_false,not_or] at hc
    obtain⟨n1,n2,n3,n4,n5⟩:=hc
    exact hk c o n1 n3 n4 n5 e
 self:=fun _ _ _ _ _ st h=>wpAny_pyIter_zip st.1 h
def Be7 (K:W.Frag) (ta:TA):TI:=fun σ H R=>ta σ H fun vs H1=>∃ a b,vs=[.ref a,.ref b]/\(∃ xs,SqT K H1 a xs)/\(∃ ys,SqT K H1 b ys)/\R (Ityp K a b) H1
theorem Ae0:bootBuiltins "zip"=some (.type "zip"):=by decide +kernel
theorem Az3 {X:Cx}{K:W.Frag}{es:List Expr}{x1:Nat}{tpos:Pos}{a b:Expr}{ta:TA}{p pos:Pos} (hg:Gl X "zip") (hm:X.mg "zip"=none) (ha:PA X [a,b] ta) (hK:X.K=K:=by rfl) (hs:starEach [a,b] X.env=[(false,eval a X.env),(false,eval b X.env)]:=by rfl) (hs2:starEach [b] X.env=[(false,eval b X.env)]:=by rfl) :
 PI X (.Tuple es x1 tpos) (.Call (.Name "zip" p) [a,b] [] pos) (Be7 K ta):=by
 subst hK
 intro Aa s σ H R I h
 refine Call_ (N5 I hg hm Ae0 (PyProof.Rows.callWith_type1 (thn (ha pos Aa s σ H _ I h) fun us s1 ⟨vs,H1,I1,r1,q1⟩=>?_) (by rw [hs,hs2]) (by rw [hs2];rfl)))
 obtain⟨la,lb,e,⟨xs,hqa⟩,⟨ys,hqb⟩,q⟩:=q1
 subst e
 cases r1 with
 | cons ra rr =>
   cases rr with
   | cons rb rr =>
     cases rr
     cases ra
     cases rb
     obtain⟨ia,_,pa,_⟩:=I1.tuple hqa
     obtain⟨ib,_,pb,_⟩:=I1.tuple hqb
     have a1:la<s1.heap.objs.size:=by obtain⟨_,e,_⟩:=pa;exact Heap.lt_size e
     have a2:lb<s1.heap.objs.size:=by obtain⟨_,e,_⟩:=pb;exact Heap.lt_size e
     refine Ao6 (show s1.heap.IsTuple la ia.toArray from pa) (show s1.heap.IsTuple lb ib.toArray from pb) fun h' hz hTI hTO hi1 hi2 hsz hk=>?_
     refine wpAny_pyIter_zip hz ⟨s1.heap.objs.size+4,[s1.heap.objs.size+4,s1.heap.objs.size+2,s1.heap.objs.size+3,s1.heap.objs.size,s1.heap.objs.size+1],_,_,H1,rfl,I1.kept (t':=s1.toks) hk,Ae8 la lb _ _ _ _ _ (zipApart_new a1 a2),⟨hz,hTI,⟨_,_,hTO⟩,hi1,hi2⟩,fun c hc=>?_,q⟩
     have lc:s1.heap.objs.size<=c:=by
      simp only [List.mem_cons,List.not_mem_nil,or_false] at hc
      rcases hc with rfl | rfl | rfl | rfl | rfl
      . exact Nat.le_add_right _ _
      . exact Nat.le_add_right _ _
      . exact Nat.le_add_right _ _
      . exact Nat.le_refl _
      . exact Nat.le_add_right _ _
     exact I1.fpOk lc (I1.hok.fresh lc)
section
variable {g:TG}{tc:TT}{te:TE}{D:Addr}{Q:Hp->Prop}{τ:St}{H:Hp}
theorem An6 {K:W.Frag}{a b:Addr}{xs ys:List V}{n:Nat} (hn:xs.length=n/\ys.length=n) (Pv:Nat->List V->St->Hp->Prop) (h0:Pv 0 [] τ H) (hl:∀ i zs τ H,i<=n->Pv i zs τ H->SqT K H a xs/\SqT K H b ys)
 (hs:∀ i x y zs τ H p,xs[i]?=some x->ys[i]?=some y->Pv i zs τ H->H p=none->g (.ref p) τ (upd H p (.tup [x,y])) fun τ2 H2=>tc τ2 H2 fun b H3=>if b=true then te τ2 H3 fun y H4=>H4 D=some (.lst zs)/\zs.length<sizeLine/\Pv (i+1) (zs++[y]) τ2 (upd H4 D (.lst (zs++[y]))) else Pv (i+1) zs τ2 H3)
 (hd:∀ zs τ H,Pv n zs τ H->Q H):RunC (Ityp K a b) g tc te D Q τ H:=by
 refine⟨fun i m zs τ H=>m=n-i/\i<=n/\Pv i zs τ H,⟨n,by simp,Nat.zero_le _,h0⟩,?_⟩
 rintro i m zs τ H ⟨rfl,hi,pp⟩
 obtain⟨qa,qb⟩:=hl i zs τ H hi pp
 by_cases hlt:i<n
 . refine .inr ⟨⟨xs,ys,xs[i],ys[i],qa,qb,by simp<;>omega,by simp<;>omega⟩,Pv (i+1),fun ys' τ' H' p'=>⟨n-(i+1),by omega,rfl,hlt,p'⟩,fun x H' y=>?_⟩
   obtain⟨p,u,v,hp,rfl,rfl,y1,y2⟩:=y
   exact hs i u v zs τ _ p (y1 xs qa) (y2 ys qb) pp hp
 . have e:i=n:=by omega
   subst e
   exact .inl ⟨⟨xs,ys,qa,qb,by omega⟩,hd zs τ H pp⟩
end
end L2
namespace L2
open PySem PySem.Spec PyProof.Rows
open AutoSeq1 (wpAny_loadPart')
theorem Am3 (t:Addr) (vs:Array Value) (n:Nat) (dd:Option Addr) (sl:Array (Option Value)):Meets (Builtin.«enumerate.__new__» ⟨[.type "enumerate",.ref t],[]⟩) (fun _ R s=>s.heap.get? t=some { cls:=.type "tuple",dict:=dd,data:=.seq vs n,slots:=sl } ∧
 R (.ok (.ret (.ref (zt1 s.heap t).objs.size))) { s with heap:=(zt1 s.heap t).push { cls:=.type "enumerate",data:=.fields #[.none,.bool false,.ref s.heap.objs.size,rawInt 0,.none,.none] } }) :=
 .of_wp fun prog w A R s h=>by
  obtain⟨hp,g,d,tk,os⟩:=s;obtain⟨q1,q2⟩:=h
  have hsub:=sub_enumerate
  have gt:Heap.IsTuple (Shared.heap ⟨hp,g,d,tk,os⟩) t vs:=⟨_,q1,rfl,n,rfl⟩
  wp_walk using wpAny_loadPart' q1
  refine wpAny_stack_any fun st=>wpAny_pure ?_
  split
  . rename_i c _ _ _ _ _
    cases (c==Value.type "enumerate")
    . wp_walk using wpAny_loadPart' q1,wpAny_pyIter_tuple gt
      exact ⟨_,rfl,q2⟩
    . wp_walk using wpAny_loadPart' q1,wpAny_pyIter_tuple gt
      exact ⟨_,rfl,q2⟩
  . wp_walk using wpAny_loadPart' q1,wpAny_pyIter_tuple gt
    exact ⟨_,rfl,q2⟩
section
variable {prog:Program}{w:World}{A:Around}{E:Value->Shared->Prop}{s:Shared}
theorem Ac5 {e j t:Addr}{n:Nat}{vs:Array Value}{x old:Value}{Q:Value->Shared->Prop} (ge:IsEnum s.heap e j n old) (gj:s.heap.IsTupleIter j t n) (gt:s.heap.IsTuple t vs) (gx:vs[n]?=some x) (ne:e≠j)
 (k:∀ h',IsEnumOut h' e j ((n:Int)+1) x s.heap.objs.size->h'.IsTupleIter j t (n+1)->h'.get? s.heap.objs.size=some { cls:=.type "tuple",data:=.seq #[.int n s.toks,x] }->h'.objs.size=s.heap.objs.size+1 →
   (∀ b o,b≠e->b≠j->s.heap.get? b=some o->h'.get? b=some o)->Q (.ref s.heap.objs.size) { s with heap:=h',toks:=s.toks+1 }) :
 wpAny (model prog w) A (Builtin.«enumerate.__next__» ⟨[.ref e],[]⟩) (fun fin s'=>∃ r,fin=.done (.ret r)/\Q r s') E s:=by
 obtain⟨hp,g,d,tk,os⟩:=s
 show wpAny _ _ (field (.ref e) 2>>=_) _ _ _;refine wpAny_bind (wpAny_field ge rfl (x:=.ref j) rfl ?_)
 refine wpAny_bind (E3 gj gt gx fun k1 gj1 w1=>?_)
 replace w1:Heap.SameBut j hp k1:=w1
 have ge1:IsEnum k1 e j n old:=(w1.2 e ne).trans ge
 show wpAny _ _ (field (.ref e) 3>>=_) _ _ ⟨k1,g,d,tk,os⟩;refine wpAny_bind (wpAny_field ge1 rfl (x:=rawInt n) rfl ?_)
 show wpAny _ _ (field (.ref e) 4>>=_) _ _ ⟨k1,g,d,tk,os⟩;refine wpAny_bind (wpAny_field ge1 rfl (x:=.none) rfl ?_)
 show wpAny _ _ (mkInt n>>=_) _ _ ⟨k1,g,d,tk,os⟩;refine wpAny_bind (wpAny_mkInt ?_)
 show wpAny _ _ (setField (.ref e) 3 (rawInt ((n:Int)+1))>>=_) _ _ ⟨k1,g,d,tk+1,os⟩
 refine wpAny_bind (wpAny_setField_rec ge1 (by simp) fun k2 ge2 w2=>?_)
 replace w2:Heap.SameBut e k1 k2:=w2
 replace ge2:IsEnum k2 e j ((n:Int)+1) old:=ge2
 show wpAny _ _ (setField (.ref e) 4 .none>>=_) _ _ ⟨k2,g,d,tk+1,os⟩;refine wpAny_bind (wpAny_setField_rec ge2 (by simp) fun k3 ge3 w3=>?_)
 replace w3:Heap.SameBut e k2 k3:=w3
 replace ge3:IsEnum k3 e j ((n:Int)+1) old:=ge3
 show wpAny _ _ (newTuple [.int n tk,x]>>=_) _ _ ⟨k3,g,d,tk+1,os⟩;refine wpAny_bind (wpAny_newTuple ?_)
 have ge4:IsEnum (k3.push { cls:=.type "tuple",data:=.seq #[.int n tk,x] }) e j ((n:Int)+1) old:=Heap.get?_push_of_some _ ge3
 generalize hk4:k3.push { cls:=.type "tuple",data:=.seq #[.int n tk,x] }=k4 at ge4
 have sz:k3.objs.size=hp.objs.size:=by rw [w3.1,w2.1,w1.1]
 have le:e<hp.objs.size:=Heap.lt_size ge
 have gt4:k4.get? hp.objs.size=some { cls:=.type "tuple",data:=.seq #[.int n tk,x] }:=by rw [←hk4,←sz];exact Heap.get?_push_size _ rfl
 have sz4:k4.objs.size=hp.objs.size+1:=by rw [←hk4,Heap.size_push,sz]
 have kp4:∀ b o,b≠e->b≠j->hp.get? b=some o->k4.get? b=some o:=fun b o n1 n2 q=>by
  rw [←hk4];exact Heap.get?_push_of_some _ (w3.extBut b o n1 (w2.extBut b o n1 (w1.extBut b o n2 q)))
 have gj4:k4.IsTupleIter j t (n+1):=by
  rw [←hk4];obtain⟨o,q,r⟩:=(gj1.extBut w2.extBut (Ne.symm ne)).extBut w3.extBut (Ne.symm ne);exact ⟨o,Heap.get?_push_of_some _ q,r⟩
 show wpAny _ _ (Builtin.SmallTypes.ownedTupleIsFree (.ref e)>>=_) _ _ ⟨k4,g,d,tk+1,os⟩
 rw [sz];clear hk4 ge3 w3 ge2 w2 ge1 w1 gj1 sz k3 k2 k1
 refine wpAny_bind ?_;unfold Builtin.SmallTypes.ownedTupleIsFree
 refine wpAny_bind (wpAny_field ge4 rfl (x:=.none) rfl (wpAny_pure ?_));simp only [if_true]
 refine wpAny_bind (wpAny_rule ?_);refine wpAny_bind (wpAny_field ge4 rfl (x:=old) rfl ?_)
 refine wpAny_bind (wpAny_setField_rec ge4 (by simp) fun k5 ge5 w5=>?_)
 replace w5:Heap.SameBut e k4 k5:=w5
 replace ge5:IsEnum k5 e j ((n:Int)+1) x:=ge5
 show wpAny _ _ (Builtin.SmallTypes.ownedTupleHandOut (.ref e) (.ref hp.objs.size)>>=_) _ _ ⟨k5,g,d,tk+1,os⟩;refine wpAny_bind ?_;unfold Builtin.SmallTypes.ownedTupleHandOut
 refine wpAny_bind (wpAny_setField_rec ge5 (by simp) fun k6 ge6 w6=>?_)
 replace w6:Heap.SameBut e k5 k6:=w6
 replace ge6:IsEnumOut k6 e j ((n:Int)+1) x hp.objs.size:=ge6
 refine wpAny_setField_rec ge6 (by simp) fun k7 ge7 w7=>?_
 replace w7:Heap.SameBut e k6 k7:=w7
 replace ge7:IsEnumOut k7 e j ((n:Int)+1) x hp.objs.size:=ge7
 refine wpAny_bind (wpAny_letGo (wpAny_pure ⟨_,rfl,k k7 ge7 ?_ ?_ ?_ ?_⟩))
 . exact ((gj4.extBut w5.extBut (Ne.symm ne)).extBut w6.extBut (Ne.symm ne)).extBut w7.extBut (Ne.symm ne)
 . exact w7.extBut _ _ (Nat.ne_of_gt le) (w6.extBut _ _ (Nat.ne_of_gt le) (w5.extBut _ _ (Nat.ne_of_gt le) gt4))
 . rw [w7.1,w6.1,w5.1,sz4]
 . exact fun b o n1 n2 q=>w7.extBut b o n1 (w6.extBut b o n1 (w5.extBut b o n1 (kp4 b o n1 n2 q)))
theorem Ps {e j t:Addr}{n:Nat}{vs:Array Value}{x old:Value}{Q:Option Value->Shared->Prop} (ge:IsEnum s.heap e j n old) (gj:s.heap.IsTupleIter j t n) (gt:s.heap.IsTuple t vs) (gx:vs[n]?=some x) (ne:e≠j)
 (k:∀ h',IsEnumOut h' e j ((n:Int)+1) x s.heap.objs.size->h'.IsTupleIter j t (n+1)->h'.get? s.heap.objs.size=some { cls:=.type "tuple",data:=.seq #[.int n s.toks,x] }->h'.objs.size=s.heap.objs.size+1 →
   (∀ b o,b≠e->b≠j->s.heap.get? b=some o->h'.get? b=some o)->Q (some (.ref s.heap.objs.size)) { s with heap:=h',toks:=s.toks+1 }):wpAny (model prog w) A (pyNext (.ref e)) Q E s:=by
 have ht:s.TypeIs (.ref e) "enumerate":=⟨_,ge,rfl⟩
 unfold pyNext
 exact wpAny_bind (wpAny_attempt (wpAny_callSpecial?_slot (name:=Str.ofString "__next__") ht F.slot_enumerate_next (wpAny_call_entry F.slot_enumerate_next ht F.entry_enumerate_next (Ac5 ge gj gt gx ne fun h' a b c d q=>wpAny_pure (k h' a b c d q)) (F.args_enumerate_next_1 _))))
theorem R4 {e j t:Addr}{n:Nat}{vs:Array Value}{old:Value}{Q:Option Value->Shared->Prop} (hn:A.handled=none) (ge:IsEnum s.heap e j n old) (gj:s.heap.IsTupleIter j t n) (gt:s.heap.IsTuple t vs) (gx:vs[n]?=none)
 (k:∀ h',Heap.ExtBut j s.heap h'->Q none { s with heap:=h' }):wpAny (model prog w) A (pyNext (.ref e)) Q E s:=by
 have ht:s.TypeIs (.ref e) "enumerate":=⟨_,ge,rfl⟩
 unfold pyNext
 refine wpAny_bind (wpAny_attempt (wpAny_callSpecial?_slot (name:=Str.ofString "__next__") ht F.slot_enumerate_next (wpAny_call_entry F.slot_enumerate_next ht F.entry_enumerate_next ?_ (F.args_enumerate_next_1 _))))
 show wpAny _ _ (field (.ref e) 2>>=_) _ _ _;refine wpAny_bind (wpAny_field ge rfl (x:=.ref j) rfl ?_)
 refine wpAny_bind (Ki hn gj gt gx fun h' x he hx=>?_)
 obtain⟨o,q1,q2⟩:=hx
 exact wpAny_bind (wpAny_isInstance (T:="StopIteration") (b:=true) ⟨o,q1,q2⟩ isSubtype_stop (wpAny_pure (k _ he)))
theorem Ad8 {t:Addr}{vs:Array Value}{Q:Value->Shared->Prop} (gt:s.heap.IsTuple t vs)
 (k:∀ h',IsEnum h' (s.heap.objs.size+1) s.heap.objs.size 0 .none->h'.IsTupleIter s.heap.objs.size t 0->h'.objs.size=s.heap.objs.size+2->(∀ b o,s.heap.get? b=some o->h'.get? b=some o)->Q (.ref (s.heap.objs.size+1)) { s with heap:=h' }) :
 wpAny (model prog w) A (call (.type "enumerate") [.ref t]) Q E s:=by
 obtain⟨⟨c,dd,dt,sl⟩,q,qc,n,qd⟩:=gt
 replace qc:c=.type "tuple":=qc
 replace qd:dt=.seq vs n:=qd
 subst qc qd
 refine callType_new F.called_enumerate (by decide) (F.typeCall_enumerate_1 _) (F.newCall_enumerate_1 _) (fun obj=>F.args_object_init_2 obj _) F.entry_enumerate_new (Am3 t vs n dd sl) ⟨q,?_⟩
 have z1:(zt1 s.heap t).objs.size=s.heap.objs.size+1:=Heap.size_push ..
 show _/\_
 rw [z1]
 have ge:IsEnum ((zt1 s.heap t).push { cls:=.type "enumerate",data:=.fields #[.none,.bool false,.ref s.heap.objs.size,rawInt 0,.none,.none] }) (s.heap.objs.size+1) s.heap.objs.size 0 .none:=by
  have:=Heap.get?_push_size (zt1 s.heap t) (o:={ cls:=.type "enumerate",data:=.fields #[.none,.bool false,.ref s.heap.objs.size,rawInt 0,.none,.none] }) rfl
  rw [z1] at this;exact this
 exact ⟨⟨_,ge,rfl⟩,k _ ge ⟨_,Heap.get?_push_of_some _ (Heap.get?_push_size _ rfl),rfl,rfl⟩ (by rw [Heap.size_push,z1]) fun b o x=>Heap.get?_push_of_some _ (Heap.get?_push_of_some _ x)⟩
end
def IteT (K:W.Frag) (a:Addr):It :=
 ⟨fun i H=>∃ xs x,SqT K H a xs/\xs[i]?=some x,fun i H x H'=>∃ p v,H p=none/\x=.ref p/\H'=upd H p (.tup [.int i,v])/\∀ xs,SqT K H a xs->xs[i]?=some v,fun i H=>∃ xs,SqT K H a xs/\xs.length<=i⟩
theorem u8 {P:Program}{w:World}{K:W.Frag}{es:List Expr}{x1:Nat}{tpos:Pos} (a e it:Addr) (hne:e≠it):Turn P w K (.Tuple es x1 tpos) (IteT K a) [e,it] e (fun i h=>(∃ old,IsEnum h e it (i:Int) old)/\h.IsTupleIter it a i) where
 mem:=by simp
 obj:=fun i h st b hb=>by
  obtain⟨⟨old,h1⟩,o,h2,c,d⟩:=st
  rcases List.mem_cons.mp hb with rfl | hb
  . exact ⟨_,h1,fun v z=>by cases (show Data.fields _=Data.cell v from z)⟩
  . have z:b=it:=by simpa using hb
    subst z
    exact ⟨o,h2,fun v z=>by rw [d] at z;cases z⟩
 keep:=fun i h h' st k=>by
  obtain⟨⟨old,h1⟩,h2⟩:=st
  exact ⟨⟨old,k e (by simp) _ h1⟩,h2.at fun o z=>k it (by simp) o z⟩
 item:=by
  intro X hP hw hK hc i Aa s σ H E I hf st hg
  subst hP hw hK
  obtain⟨⟨old,h1⟩,h2⟩:=st
  obtain⟨xs,x,hq,hx⟩:=hg
  obtain⟨its,rv,p,hz⟩:=I.tuple hq
  obtain⟨u,hu,ru⟩:=rv.get hx
  have fe:=hf e (by simp)
  have fi:=hf it (by simp)
  have lte:e<s.heap.objs.size:=Heap.lt_size h1
  have hfresh:H s.heap.objs.size=none:=I.hok.fresh (Nat.le_refl _)
  refine Ps h1 h2 (show s.heap.IsTuple a its.toArray from p) (x:=u) (by simpa using hu) hne fun h' hout hit' htup hsz hk=>?_
  refine⟨_,rfl,wpAny_letOwnedTupleGo_enum hout fun h3 hen hsb=>?_⟩
  replace hsb:Heap.SameBut e h' h3:=hsb
  have kk:∀ b o,b≠e->b≠it->s.heap.get? b=some o->h3.get? b=some o:=fun b o n1 n2 z=>(hsb.2 b n1).trans (hk b o n1 n2 z)
  have ht3:h3.get? s.heap.objs.size=some { cls:=.type "tuple",data:=.seq #[.int i s.toks,u] }:=(hsb.2 _ (Nat.ne_of_gt lte)).trans htup
  have hi3:h3.IsTupleIter it a (i+1):=hit'.at fun o z=>(hsb.2 it hne.symm).trans z
  have nch:∀ b,b ∉ [e,it]->b≠e/\b≠it:=fun b hb=>by simpa using hb
  have ntr:∀ b v,H b=some v->b≠e/\b≠it:=fun b v z=>⟨Al z fe.1,Al z fi.1⟩
  have nsz:∀ b v,H b=some v->b≠s.heap.objs.size:=fun b v z=>Al z hfresh
  refine⟨.ref s.heap.objs.size,upd H s.heap.objs.size (.tup [.int i,x]),?_,rfl,⟨s.heap.objs.size,x,hfresh,rfl,rfl,fun ys hy=>by rw [I.tuple_inj hy hq];exact hx⟩,⟨⟨_,hen⟩,hi3⟩,fun b hb=>?_⟩
  . refine Inv.step (s:=s) (h':=h3) (t':=s.toks+1) (H':=upd H s.heap.objs.size (.tup [.int i,x])) I (g':=s.gens) (d':=s.drawn) (ch:=[e,it]) (fun b hb=>?_) (fun b o _ _ hb z _=>kk b o (nch b hb).1 (nch b hb).2 z) (fun b o _ _ hb z _=>⟨o.slots,kk b o (nch b hb).1 (nch b hb).2 z⟩) (fun b o hb z n=>?_) (fun b o hb z=>⟨o,kk b o (nch b hb).1 (nch b hb).2 z⟩)
     (fun b ys z=>by rw [Ae (nsz b _ z)];exact z) (fun b o v z=>by rw [Ae (nsz b _ z)];exact z) (fun b ps z=>⟨#[],by rw [Ae (nsz b _ z),z];simp⟩) (fun m hm=>?_) (fun b v z=>?_) I.bare
    . rcases List.mem_cons.mp hb with rfl | hb
      . exact ⟨fe.2.2.2.1,fe.2.1,fe.2.2.2.2.1,fe.2.2.2.2.2⟩
      . have z:b=it:=by simpa using hb
        subst z
        exact ⟨fi.2.2.2.1,fi.2.1,fi.2.2.2.2.1,fi.2.2.2.2.2⟩
    . rw [Ae (Nat.ne_of_lt (Heap.lt_size z))]
      exact n
    . obtain⟨o,es',ep,ho,r⟩:=hm
      exact ⟨o,es',ep,kk _ o fe.2.1.symm fi.2.1.symm ho,r⟩
    . by_cases hb:b=s.heap.objs.size
      . subst hb
        rw [Ac] at z
        cases z
        exact ⟨(by show (2:Nat)<=sizeLine;decide),[.int i s.toks,u],.cons ⟨_,rfl⟩ (.cons ru .nil),⟨_,ht3,rfl,rfl,_,rfl⟩⟩
      . rw [Ae hb] at z
        refine (I.hok b v z).stay (fun c y hc' q=>?_) (fun c q=>by rw [Ae (nsz c _ q)];exact q) fun c ys q=>by rw [Ae (nsz c _ q)];exact q
        rcases hc' with rfl | hc'
        . exact kk _ _ (ntr _ _ z).1 (ntr _ _ z).2 q
        . exact kk _ _ (ntr _ _ hc').1 (ntr _ _ hc').2 q
  . have lb:b<s.heap.objs.size:=by
     rcases List.mem_cons.mp hb with rfl | hb
     . exact lte
     . have z:b=it:=by simpa using hb
       subst z
       obtain⟨o,z,_⟩:=h2
       exact Heap.lt_size z
    rw [Ae (Nat.ne_of_lt lb)]
    exact (hf b hb).1
 done:=by
  intro X hP hw hK hc i Aa s σ H E I hf st hg
  subst hP hw hK
  obtain⟨⟨old,h1⟩,h2⟩:=st
  obtain⟨xs,hq,hx⟩:=hg
  obtain⟨its,rv,p,hz⟩:=I.tuple hq
  obtain⟨f0,f1,f2,f3,f4,f5⟩:=hf it (by simp)
  have hl:=rv.length
  exact R4 (I.ok.hd hc) h1 h2 (show s.heap.IsTuple a its.toArray from p) (by simp;omega) fun h' eb=>⟨rfl,I.turned (t':=s.toks) (fun b o hb z=>eb b o hb z) f0 f1 f3 f4 f5⟩
 self:=fun _ _ _ _ _ st h=>by
  obtain⟨⟨old,h1⟩,h2⟩:=st
  exact wpAny_pyIter_enum h1 h
def Bb2 (K:W.Frag) (ta:TA):TI:=fun σ H R=>ta σ H fun vs H1=>∃ a,vs=[.ref a]/\(∃ xs,SqT K H1 a xs)/\R (IteT K a) H1
theorem Oj:bootBuiltins "enumerate"=some (.type "enumerate"):=by decide +kernel
theorem Ar7 {X:Cx}{K:W.Frag}{es:List Expr}{x1:Nat}{tpos:Pos}{a:Expr}{ta:TA}{p pos:Pos} (hg:Gl X "enumerate") (hm:X.mg "enumerate"=none) (ha:PA X [a] ta) (hK:X.K=K:=by rfl) (hs:starEach [a] X.env=[(false,eval a X.env)]:=by rfl):PI X (.Tuple es x1 tpos) (.Call (.Name "enumerate" p) [a] [] pos) (Bb2 K ta):=by
 subst hK
 intro Aa s σ H R I h
 refine Call_ (N5 I hg hm Oj (PyProof.Rows.callWith_type1 (thn (ha pos Aa s σ H _ I h) fun us s1 ⟨vs,H1,I1,r1,q1⟩=>?_) hs rfl))
 obtain⟨l,e,⟨xs,hq⟩,q⟩:=q1
 subst e
 cases r1 with
 | cons r rr =>
   cases rr
   cases r
   obtain⟨its,rv,pl,hz⟩:=I1.tuple hq
   refine Ad8 (show s1.heap.IsTuple l its.toArray from pl) fun h' hen hit hsz hk=>?_
   refine wpAny_pyIter_enum hen ⟨s1.heap.objs.size+1,[s1.heap.objs.size+1,s1.heap.objs.size],_,_,H1,rfl,I1.kept (t':=s1.toks) hk,u8 l _ _ (Nat.succ_ne_self _),⟨⟨_,hen⟩,hit⟩,fun b hb=>?_,q⟩
   have lb:s1.heap.objs.size<=b:=by
    rcases List.mem_cons.mp hb with rfl | hb
    . exact Nat.le_succ _
    . have z:b=s1.heap.objs.size:=by simpa using hb
      rw [z]
      exact Nat.le_refl _
   exact I1.fpOk lb (I1.hok.fresh lb)
section
variable {g:TG}{tc:TT}{te:TE}{D:Addr}{Q:Hp->Prop}{τ:St}{H:Hp}
theorem Al8 {K:W.Frag}{a:Addr}{xs:List V}{g:TG}{tb:TS}{D:Ends}{σ:St}{H:Hp} (Pv:Nat->St->Hp->Prop) (h0:Pv 0 σ H) (hl:∀ i σ H,i<=xs.length->Pv i σ H->SqT K H a xs)
 (hs:∀ i x σ H p,xs[i]?=some x->Pv i σ H->H p=none->g (.ref p) σ (upd H p (.tup [.int i,x])) fun σ2 H2=>tb { D with nx:=Pv (i+1),ct:=Pv (i+1),bk:=D.nx } σ2 H2) (hd:∀ σ H,Pv xs.length σ H->D.nx σ H) :
 ∃ W:Nat->Nat->St->Hp->Prop,(∃ m,W 0 m σ H)/\∀ i m σ H,W i m σ H →
   ((IteT K a).stop i H/\D.nx σ H)\/((IteT K a).go i H/\∃ N:St->Hp->Prop,(∀ σ' H',N σ' H'->∃ m',m'<m/\W (i+1) m' σ' H')/\∀ x H',(IteT K a).yld i H x H'->g x σ H' fun σ2 H2=>tb { D with nx:=N,ct:=N,bk:=D.nx } σ2 H2):=by
 refine⟨fun i m σ H=>m=xs.length-i/\i<=xs.length/\Pv i σ H,⟨xs.length,by simp,Nat.zero_le _,h0⟩,?_⟩
 rintro i m σ H ⟨rfl,hi,pp⟩
 have q:=hl i σ H hi pp
 by_cases hlt:i<xs.length
 . refine .inr ⟨⟨xs,xs[i],q,by simp [hlt]⟩,Pv (i+1),fun σ' H' p'=>⟨xs.length-(i+1),by omega,rfl,hlt,p'⟩,fun x H' y=>?_⟩
   obtain⟨p,v,hp,rfl,rfl,y⟩:=y
   exact hs i v σ _ p (y xs q) pp hp
 . have e:i=xs.length:=by omega
   subst e
   exact .inl ⟨⟨xs,q,Nat.le_refl _⟩,hd σ H pp⟩
end
end L2
namespace Hb
def oftN (fs:List Int) (f:Int):Nat->Int
 | 0=>0
 | i+1=>if fs.getD i 0=f then oftN fs f i+1-2*((i:Int)%2) else oftN fs f i
def oft (fs:List Int) (f:Int):Int:=oftN fs f fs.length
end Hb
namespace Hb
open PySem L2
def sgn (n:Int) (i:Nat):Int:=if (i:Int)%2=0 then n else -n
def Lb (ms:Ms) (fs:List Int) (n:Int):Nat->Ms
 | 0=>ms
 | i+1=>addI (Lb ms fs n i) (fs.getD i 0) (sgn n i)
def addF (ms:Ms) (fs:List Int) (n:Int):Ms:=Lb ms fs n fs.length
theorem P8 (ms:Ms) (fs:List Int) (n k:Int):∀ i,getI (Lb ms fs n i) k=getI ms k+oftN fs k i*n
 | 0=>by simp [Lb,oftN]
 | i+1=>by
   show getI (addI (Lb ms fs n i) (fs.getD i 0) (sgn n i)) k=_
   rw [Al5,P8 ms fs n k i]
   show _=getI ms k+(if fs.getD i 0=k then oftN fs k i+1-2*((i:Int)%2) else oftN fs k i)*n
   by_cases h:k=fs.getD i 0
   . rw [if_pos h,if_pos h.symm]
     have e:sgn n i=(1-2*((i:Int)%2))*n:=by
      unfold sgn
      have:(i:Int)%2=0\/(i:Int)%2=1:=by omega
      rcases this with z | z
      . rw [if_pos z,z];simp
      . rw [if_neg (by omega),z];omega
     rw [e,show oftN fs k i+1-2*((i:Int)%2)=oftN fs k i+(1-2*((i:Int)%2)) by omega,Int.add_mul]
     omega
   . rw [if_neg h,if_neg (fun z=>h z.symm)]
theorem Ot {ms:Ms} (h:nd ms) (fs:List Int) (n:Int):∀ i,nd (Lb ms fs n i)
 | 0=>h
 | i+1=>Aw4 (Ot h fs n i) _ _
theorem Px (ms:Ms) (fs:List Int) (n:Int):∀ i,(Lb ms fs n i).length<=ms.length+i
 | 0=>Nat.le_refl _
 | i+1=>by
   have h1:=Px ms fs n i
   have h2:=Zz (Lb ms fs n i) (fs.getD i 0) (sgn n i)
   show (addI _ _ _).length<=_
   omega
def A00 (xs:List (List Int)) (k p n:Int):Bool:=Bc xs (.int p) k&&decide (¬n=0)
def D6 (xs:List (List Int)) (k:Int) (ms:Ms):Bool:=ms.all fun p=>A00 xs k p.1 p.2
def Qw (xs:List (List Int)) (ms:Ms):Nat->Ms
 | 0=>[]
 | i+1=>addF (Qw xs ms i) (xs.getD (ms.getD i (0,0)).1.toNat []) (ms.getD i (0,0)).2
def Ad9 (xs:List (List Int)) (ms:Ms):Ms:=Qw xs ms ms.length
theorem Pw {xs:List (List Int)} (h4:∀ x∈xs,x.length<=4) (ms:Ms):∀ i,(Qw xs ms i).length<=4*i
 | 0=>Nat.le_refl _
 | i+1=>by
   have h1:=Pw h4 ms i
   show (addF _ _ _).length<=_
   unfold addF
   have h2:=Px (Qw xs ms i) (xs.getD (ms.getD i (0,0)).1.toNat []) (ms.getD i (0,0)).2 (xs.getD (ms.getD i (0,0)).1.toNat []).length
   have h3:(xs.getD (ms.getD i (0,0)).1.toNat []).length<=4:=by
    rcases Gw (l:=xs) (i:=(ms.getD i (0,0)).1.toNat) (d:=[]) with z | z
    . exact h4 _ z
    . rw [z];exact Nat.zero_le _
   omega
theorem Pi {xs:List (List Int)}{p l:Int} (h:Bc xs (.int p) l=true):0<=p/\p<(xs.length:Int):=by
 have h':(decide (0<=p)&&decide (p<(xs.length:Int))&&decide (levI (xs.getD p.toNat []).length=l))=true:=h
 rw [Bool.and_eq_true,Bool.and_eq_true] at h'
 exact ⟨of_decide_eq_true h'.1.1,of_decide_eq_true h'.1.2⟩
def Kh (b:Addr) (H H1:Hp):Prop:=∀ c q,c≠b->H c=some q->H1 c=some q
section
variable {K:W.Frag}{H H1:Hp}{b:Addr}{m:List (Key × V)}
theorem SqL.x (s:Kh b H H1) (hb:H b=some (.dK m)) {a:Addr}{xs:List V} (h:SqL K H a xs):SqL K H1 a xs:=by
 rcases h with (h|⟨o,h⟩) | h
 . exact .inl (.inl (s _ _ (fun z=>by rw [z,hb] at h;cases h) h))
 . exact .inl (.inr ⟨o,s _ _ (fun z=>by rw [z,hb] at h;cases h) h⟩)
 . exact .inr h
theorem SqT.x (s:Kh b H H1) (hb:H b=some (.dK m)) {a:Addr}{xs:List V} (h:SqT K H a xs):SqT K H1 a xs:=by
 rcases h with (h|⟨o,h⟩) | h
 . exact .inl (.inl (s _ _ (fun z=>by rw [z,hb] at h;cases h) h))
 . exact .inl (.inr ⟨o,s _ _ (fun z=>by rw [z,hb] at h;cases h) h⟩)
 . exact .inr h
mutual
theorem Rep.x (s:Kh b H H1) (hb:H b=some (.dK m)) {v:V}{d:L2.D} (h:Rep K H v d):Rep K H1 v d:=by
 cases d with
 | non=>exact h
 | bl b=>exact h
 | int i=>exact h
 | str x=>exact h
 | tup ds =>
   obtain⟨a,vs,e,q,r⟩:=h
   exact ⟨a,vs,e,SqT.x s hb q,Reps.x s hb r⟩
 | lst ds =>
   obtain⟨a,vs,e,q,r⟩:=h
   exact ⟨a,vs,e,SqL.x s hb q,Reps.x s hb r⟩
theorem Reps.x (s:Kh b H H1) (hb:H b=some (.dK m)) {vs:List V}{ds:List L2.D} (h:Reps K H vs ds):Reps K H1 vs ds:=by
 cases ds with
 | nil=>exact h
 | cons d r =>
   obtain⟨v,q,e,h1,h2⟩:=h
   exact ⟨v,q,e,Rep.x s hb h1,Reps.x s hb h2⟩
end
end
section
variable (K:W.Frag)
def Fd:Sp:=fun vs H Q _=>∃ (a:Addr) (v:V) (ms:Ms) (fs:List Int) (n:Int),vs=[.ref a,v,.int n]/\H a=some (.dK (cK ms))/\TI K H v fs/\ms.length+fs.length<=100000 ∧
 ∀ H',Kh a H H'->H' a=some (.dK (cK (addF ms fs n)))->Q .non H'
def Af5:Sp:=fun vs H Q _=>∃ (a b:Addr) (xs:List (List Int)) (ms:Ms),vs=[.ref a,.ref b]/\LT K H (.ref a) xs/\H b=some (.dK (cK ms))/\ms.length<=1000/\(∀ x∈xs,x.length<=4) ∧
 (∃ k:Nat,k<4/\D6 xs (k:Int) ms=true)/\newC H (Ad9 xs ms) Q
end
end Hb
namespace L2
open PySem PySem.Spec PyProof.Rows
structure PEw (X:Cx) (e:Expr) (t:TE):Prop where
 h:PE X e t
theorem Y6 {X:Cx}{K:W.Frag}{sl:Expr}{es:List Expr}{k:Nat}{p q:Pos}{ta:TA}{tsl:TE} (ha:PAw X es ta) (hsl:PE X sl tsl) (hpi:Aq0 sl) (hK:X.K=K:=by rfl) :
 PEw X (.Subscript (.Tuple es k p) sl q) (tOp (rIxT K) (tTup ta) tsl):=by
 subst hK
 exact ⟨Cc Ce (Ge ha.h) hsl hpi⟩
end L2
namespace Hb
open PySem L2
theorem at0 (x:V) (r:List V):atI (x::r) 0=some x:=Cg (j:=0) rfl
theorem at1 (x y:V) (r:List V):atI (x::y::r) 1=some y:=Cg (j:=1) rfl
theorem at2 (x y z:V) (r:List V):atI (x::y::z::r) 2=some z:=Cg (j:=2) rfl
section
variable (K:W.Frag)
end
end Hb
namespace Hb
open PySem L2
end Hb
namespace Hb
def isP (n:Int):Bool:=(List.range (n-2).toNat).all fun k=>decide (¬n%(2+(k:Int))=0)
structure E9 (p:Int):Prop where
 two:2<=p
 free:∀ k:Int,2<=k->k<p->¬p%k=0
theorem Ak7 {n:Int} (h2:2<=n) (h:isP n=true):E9 n:=by
 refine⟨h2,fun k k2 kn=>?_⟩
 have h':=List.all_eq_true.mp h (k-2).toNat (List.mem_range.mpr (by omega))
 have e:(2:Int)+((k-2).toNat:Int)=k:=by omega
 rw [e] at h'
 simpa using h'
theorem E9.div {p a:Int} (h:E9 p) (ha:0<a) (hd:a∣p):a=1\/a=p:=by
 have h2:=h.two
 have hle:a<=p:=Int.le_of_dvd (by omega) hd
 by_cases h1:a=1
 . exact .inl h1
 . by_cases hp:a=p
   . exact .inr hp
   . exact absurd (Int.emod_eq_zero_of_dvd hd) (h.free a (by omega) (by omega))
structure Eu (n p a x b u:Int):Prop where
 ha:p∣a-x*n
 hb:p∣b-u*n
 dv:∀ d:Int,d∣a->d∣b->d∣n/\d∣p
theorem Eu.start (n p:Int):Eu n p n 1 p 0:=⟨by simp,by simp,fun d h1 h2=>⟨h1,h2⟩⟩
theorem Eu.step {n p a x b u:Int} (h:Eu n p a x b u) (q:Int):Eu n p b u (a-q*b) (x-q*u):=by
 refine⟨h.hb,?_,fun d h1 h2=>?_⟩
 . have e:a-q*b-(x-q*u)*n=(a-x*n)-q*(b-u*n):=by
    rw [Int.sub_mul,Int.mul_sub,Int.mul_assoc]
    omega
   rw [e]
   exact Int.dvd_sub h.ha (Int.dvd_mul_of_dvd_right h.hb)
 . have e:a=(a-q*b)+q*b:=by omega
   refine h.dv d ?_ h1
   rw [e]
   exact Int.dvd_add h2 (Int.dvd_mul_of_dvd_right h1)
theorem Eu.last {n p a x u:Int} (h:Eu n p a x 0 u) (hp:E9 p) (hn:¬p∣n) (ha:0<a):a=1:=by
 obtain⟨h1,h2⟩:=h.dv a (Int.dvd_refl a) (Int.dvd_zero a)
 rcases hp.div ha h2 with e | e
 . exact e
 . subst e
   exact absurd h1 hn
theorem As5 {n p x:Int} (h2:2<=p) (h:p∣1-x*n):0<=x%p/\x%p<p/\p∣1-(x%p)*n:=by
 refine⟨Int.emod_nonneg _ (by omega),Int.emod_lt_of_pos _ (by omega),?_⟩
 have e:1-(x%p)*n=(1-x*n)+p*((x / p)*n):=by
  have:x=p*(x / p)+x%p:=(Int.mul_ediv_add_emod x p).symm
  have e2:x*n=p*(x / p)*n+x%p*n:=by
   rw [←Int.add_mul,←this]
  rw [e2,Int.mul_assoc]
  omega
 rw [e]
 exact Int.dvd_add h (Int.dvd_mul_right _ _)
def prs (m:Nat):List Int:=((List.range m).map fun (i:Nat)=>2+(i:Int)).filter isP
theorem Az0 {m:Nat}{p:Int} (h:p∈prs m):E9 p/\p<2+(m:Int):=by
 unfold prs at h
 rw [List.mem_filter] at h
 obtain⟨h1,h2⟩:=h
 obtain⟨i,hi,rfl⟩:=List.mem_map.mp h1
 have:=List.mem_range.mp hi
 exact ⟨Ak7 (by omega) h2,by omega⟩
def dvs (n:Int) (m:Nat):List Int:=((List.range m).map fun (i:Nat)=>2+(i:Int)).filter fun k=>decide (n%k=0)
end Hb
namespace L2
open PySem PySem.Spec PyProof.Rows
def rInK:R2:=fun x y H Q=>∃ a kvs k,y=.ref a/\H a=some (.dK kvs)/\x=kV k/\Q (.bl (valV kvs k).isSome) H
theorem A81 {X:Cx} (hu:X.A.units+1<cLine):OpR X (compareOp .In) rInK:=by
 intro Aa s σ H x y v u Q I rx ry h
 obtain⟨a,kvs,k,rfl,ha,rfl,q⟩:=h
 obtain rfl:u=Value.ref a:=ry
 exact d_in hu I (.k ha) rx fun s3 I3=>⟨.bl (valV kvs k).isSome,H,I3,rfl,q⟩
end L2
namespace Hb
open PySem L2
theorem Af8 {xs:List (List Int)} (h:Lc xs):Av5 xs:=fun x hx=>by
 obtain⟨k,hk⟩:=List.getElem?_of_mem hx
 exact (h k x hk).cnt
theorem x6 {xs:List (List Int)}{q:List Int} (h:Lc xs) (hf:Fits xs q):Lc (xs++[q]):=fun k p hk=>by
 by_cases hlt:k<xs.length
 . rw [List.getElem?_append_left hlt] at hk
   rw [List.take_append_of_le_length (by omega)]
   exact h k p hk
 . have hk':k<(xs++[q]).length:=(List.getElem?_eq_some_iff.mp hk).1
   have e:k=xs.length:=by simp at hk';omega
   subst e
   simp at hk
   subst hk
   rw [List.take_append_of_le_length (Nat.le_refl _),List.take_length]
   exact hf
theorem b4 {xs:List (List Int)}{f:Int} (h0:0<=f) (h1:f<(xs.length:Int)):xs[f.toNat]?=some (xs.getD f.toNat []):=by
 have:f.toNat<xs.length:=by omega
 rw [List.getD_eq_getElem?_getD,List.getElem?_eq_getElem this]
 rfl
theorem Ac3 {xs:List (List Int)}{q:List Int} (h:Ka xs (tI q)=true):∀ f∈q,0<=f/\f<(xs.length:Int)/\levI (xs.getD f.toNat []).length=levI q.length-1:=by
 intro f hf
 have h':Ka xs (.tup (nums q))=true:=h
 rw [E7] at h'
 simp only [Bool.and_eq_true] at h'
 have h2:=List.all_eq_true.mp h'.1.2 (.int f) (List.mem_map.mpr ⟨f,hf,rfl⟩)
 have h3:(decide (0<=f)&&decide (f<(xs.length:Int))&&decide (levI (xs.getD f.toNat []).length=levI (nums q).length-1))=true:=h2
 simp only [Bool.and_eq_true,decide_eq_true_eq] at h3
 have hl:(nums q).length=q.length:=by unfold nums;rw [List.length_map]
 rw [hl] at h3
 exact ⟨h3.1.1,h3.1.2,h3.2⟩
theorem Au3 {xs:List (List Int)}{q:List Int} (h:Ka xs (tI q)=true):q.length=0\/q.length=2\/q.length=3\/q.length=4:=by
 have h':Ka xs (.tup (nums q))=true:=h
 rw [E7] at h'
 simp only [Bool.and_eq_true] at h'
 have h1:=h'.1.1
 have hl:(nums q).length=q.length:=by unfold nums;rw [List.length_map]
 rw [hl] at h1
 unfold cntB at h1
 simp only [Bool.or_eq_true,beq_iff_eq] at h1
 omega
theorem Aj2 (q:List Int):(nums q).map toI=q:=by
 unfold nums
 rw [List.map_map]
 exact (List.map_congr_left fun _ _=>rfl).trans (List.map_id q)
theorem A33 {xs:List (List Int)}{q:List Int} (hc:Av5 xs) (h:Ka xs (tI q)=true):Fits xs q:=by
 have hfs:=Ac3 h
 have hcn:=Au3 h
 have hlev:∀ f∈q,(xs.getD f.toNat []).length-1+1=q.length-1:=fun f hf=>by
  obtain⟨h0,h1,h2⟩:=hfs f hf
  have hq:1<=q.length:=List.length_pos_of_mem hf
  rw [Fv,Fv] at h2
  omega
 refine⟨hcn,fun f hf=>(hfs f hf).1,fun f hf=>?_,fun h3 i j f g r s hij hj hi hr hs=>?_⟩
 . obtain⟨h0,h1,_⟩:=hfs f hf
   exact ⟨_,b4 h0 h1,hlev f hf⟩
 . have hf:=List.mem_of_getElem? hj
   have hg:=List.mem_of_getElem? hi
   obtain⟨f0,f1,_⟩:=hfs f hf
   obtain⟨g0,g1,_⟩:=hfs g hg
   have er:r=xs.getD f.toNat []:=by rw [b4 f0 f1] at hr;exact (Option.some.inj hr).symm
   have es:s=xs.getD g.toNat []:=by rw [b4 g0 g1] at hs;exact (Option.some.inj hs).symm
   have h':Ka xs (.tup (nums q))=true:=h
   rw [E7] at h'
   simp only [Bool.and_eq_true,Bool.or_eq_true,decide_eq_true_eq,Aj2] at h'
   have hl:(nums q).length=q.length:=by unfold nums;rw [List.length_map]
   have ha:Jk xs q=true:=by
    rcases h'.2 with z | z
    . rw [hl,Fv] at z;omega
    . exact z
   have hjl:j<q.length:=(List.getElem?_eq_some_iff.mp hj).1
   have h4:=List.all_eq_true.mp (List.all_eq_true.mp ha j (List.mem_range.mpr hjl)) i (List.mem_range.mpr hij)
   unfold Ny at h4
   have hjd:q.getD j 0=f:=by rw [List.getD_eq_getElem?_getD,hj];rfl
   have hid:q.getD i 0=g:=by rw [List.getD_eq_getElem?_getD,hi];rfl
   rw [hjd,hid,←er,←es,decide_eq_true_eq] at h4
   have l1:=hlev f hf
   have l2:=hlev g hg
   rw [←er] at l1
   rw [←es] at l2
   have hr':r.length=0\/r.length=2\/r.length=3\/r.length=4:=by rw [er];exact hc.at f0 f1
   have hs':s.length=0\/s.length=2\/s.length=3\/s.length=4:=by rw [es];exact hc.at g0 g1
   have i1:i<r.length:=by omega
   have j1:j-1<s.length:=by omega
   rw [List.getElem?_eq_getElem i1,List.getElem?_eq_getElem j1]
   rw [List.getD_eq_getElem?_getD,List.getD_eq_getElem?_getD,List.getElem?_eq_getElem i1,List.getElem?_eq_getElem j1] at h4
   exact congrArg some h4
def Bb6 (xs:List (List Int)):DE->Bool
 | .d d=>Ka xs d
 | .nul=>false
structure Om (p:Int) (xs:List (List Int)) (es ss:List Ms) (bs:Ms):Prop where
 shp:Lc xs
 le:es.length=xs.length
 ls:ss.length=xs.length
 n40:xs.length<=40
 eok:∀ (i:Nat) m,es[i]?=some m->OkM p m/\∀ x∈Ay m,0<=x/\x<(i:Int)/\((xs.getD x.toNat []).length-1)+1=(xs.getD i []).length-1
 sok:∀ (i:Nat) m,ss[i]?=some m->OkM p m/\∀ x∈Ay m,0<=x/\x<=(i:Int)
 bnd:nd bs
 bls:∀ b e,Bd bs b=some e↔∃ (i:Nat) (m:Ms),e=(i:Int)/\es[i]?=some m/\Top m b
theorem Om.nil (p:Int):Om p [] [] [] []:=⟨fun k q h=>by simp at h,rfl,rfl,by decide,fun i m h=>by simp at h,fun i m h=>by simp at h,List.nodup_nil,fun b e=>⟨fun h=>by simp [Bd] at h,fun ⟨i,m,_,h,_⟩=>by simp at h⟩⟩
theorem Top.no {b:Int} (h:Top [] b):False:=by have:=h.mem;simp [Ay] at this
theorem C9 {xs:List (List Int)}{q:List Int}{i:Nat} (h:i<xs.length):(xs++[q]).getD i []=xs.getD i []:=by
 rw [List.getD_eq_getElem?_getD,List.getD_eq_getElem?_getD,List.getElem?_append_left h]
theorem Ow {xs:List (List Int)}{q:List Int}:(xs++[q]).getD xs.length []=q:=by
 rw [List.getD_eq_getElem?_getD,List.getElem?_append_right (Nat.le_refl _)]
 simp
theorem Db {α:Type}{l:List α}{x y:α}{i:Nat} (h:(l++[x])[i]?=some y):(i<l.length/\l[i]?=some y)\/(i=l.length/\y=x):=by
 by_cases hlt:i<l.length
 . rw [List.getElem?_append_left hlt] at h
   exact .inl ⟨hlt,h⟩
 . have hk':i<(l++[x]).length:=(List.getElem?_eq_some_iff.mp h).1
   have e:i=l.length:=by simp at hk';omega
   subst e
   simp at h
   exact .inr ⟨rfl,h.symm⟩
structure Bf6 (p:Int) (xs:List (List Int)) (bs:Ms) (q:List Int) (ms me:Ms):Prop where
 h1:OkM p ms
 k1:∀ x∈Ay ms,0<=x/\x<=(xs.length:Int)
 h2:OkM p me
 k2:∀ x∈Ay me,0<=x/\x<(xs.length:Int)/\(xs.getD x.toNat []).length-1+1=q.length-1
 h3:∀ b,Top me b->Bd bs b=none
theorem Om.grow {p:Int}{xs:List (List Int)}{es ss:List Ms}{bs:Ms}{q:List Int}{ms me bs':Ms} (h:Om p xs es ss bs) (hf:Fits xs q) (hn:xs.length<40) (f:Bf6 p xs bs q ms me)
 (hb:(me=[]/\bs'=bs)\/∃ b,Top me b/\bs'=putI bs b (xs.length:Int)):Om p (xs++[q]) (es++[me]) (ss++[ms]) bs':=by
 refine⟨x6 h.shp hf,by simp [h.le],by simp [h.ls],by simp;omega,fun i m hi=>?_,fun i m hi=>?_,?_,fun b e=>?_⟩
 . rcases Db hi with ⟨hl,hi⟩|⟨rfl,rfl⟩
   . rw [h.le] at hl
     obtain⟨a1,a2⟩:=h.eok i m hi
     refine⟨a1,fun x hx=>?_⟩
     obtain⟨b1,b2,b3⟩:=a2 x hx
     refine⟨b1,b2,?_⟩
     rw [C9 (by omega),C9 hl]
     exact b3
   . refine⟨f.h2,fun x hx=>?_⟩
     obtain⟨b1,b2,b3⟩:=f.k2 x hx
     rw [h.le]
     refine⟨b1,b2,?_⟩
     rw [C9 (by omega),Ow]
     exact b3
 . rcases Db hi with ⟨hl,hi⟩|⟨rfl,rfl⟩
   . exact h.sok i m hi
   . rw [h.ls]
     exact ⟨f.h1,f.k1⟩
 . rcases hb with ⟨_,rfl⟩|⟨b,_,rfl⟩
   . exact h.bnd
   . exact Ai5 h.bnd _ _
 . rcases hb with ⟨rfl,rfl⟩|⟨b0,hb0,rfl⟩
   . rw [h.bls]
     constructor
     . rintro ⟨i,m,e1,e2,e3⟩
       exact ⟨i,m,e1,by rw [List.getElem?_append_left (List.getElem?_eq_some_iff.mp e2).1];exact e2,e3⟩
     . rintro ⟨i,m,e1,e2,e3⟩
       rcases Db e2 with ⟨_,e2⟩|⟨_,rfl⟩
       . exact ⟨i,m,e1,e2,e3⟩
       . exact (Top.no e3).elim
   . rw [Pu]
     by_cases hbb:b=b0
     . subst hbb
       rw [if_pos rfl]
       constructor
       . intro z
         cases z
         exact ⟨es.length,me,by rw [h.le],by simp,hb0⟩
       . rintro ⟨i,m,e1,e2,e3⟩
         rcases Db e2 with ⟨_,e2⟩|⟨e4,rfl⟩
         . have:=(h.bls b (i:Int)).mpr ⟨i,m,rfl,e2,e3⟩
           rw [f.h3 b hb0] at this
           cases this
         . rw [e1,e4,h.le]
     . rw [if_neg hbb,h.bls]
       constructor
       . rintro ⟨i,m,e1,e2,e3⟩
         exact ⟨i,m,e1,by rw [List.getElem?_append_left (List.getElem?_eq_some_iff.mp e2).1];exact e2,e3⟩
       . rintro ⟨i,m,e1,e2,e3⟩
         rcases Db e2 with ⟨_,e2⟩|⟨_,rfl⟩
         . exact ⟨i,m,e1,e2,e3⟩
         . exact absurd (Top.one e3 hb0) hbb
theorem Fh {ms:Ms} (h:nd ms) (hk:∀ x∈Ay ms,0<=x/\x<=40):ms.length<=41:=by
 have:=Aj7 (Ay ms) ((List.range 41).map fun (i:Nat)=>(i:Int)) h fun x hx=>by
  obtain⟨h1,h2⟩:=hk x hx
  exact List.mem_map.mpr ⟨x.toNat,List.mem_range.mpr (by omega),by omega⟩
 unfold Ay at this
 simpa using this
theorem Om.blen {p:Int}{xs:List (List Int)}{es ss:List Ms}{bs:Ms} (h:Om p xs es ss bs):bs.length<=41:=by
 refine Fh h.bnd fun x hx=>?_
 obtain⟨r,hr,rfl⟩:=List.mem_map.mp hx
 obtain⟨i,m,_,e2,e3⟩:=(h.bls r.1 r.2).mp (Gy h.bnd hr)
 have hl:i<xs.length:=by rw [←h.le];exact (List.getElem?_eq_some_iff.mp e2).1
 have:=(h.eok i m e2).2 _ e3.mem
 have:=h.n40
 omega
theorem Xl {p n:Int}{es fs:Ms} (hp:0<p) (he:OkM p es) (hf:OkM p fs):OkM p (modI p (Do es (A8 n fs)))/\∀ x∈Ay (modI p (Do es (A8 n fs))),x∈Ay es\/x∈Ay fs:=by
 have ndt:nd (A8 n fs):=by
  unfold A8
  split
  . exact List.nodup_nil
  . exact Jm hf.nd _
 obtain⟨n1,n2,n3,n4⟩:=K0 (A8 n fs) es he.nd he.nz ndt
 have ok:=Ai8 n1 hp
 refine⟨ok,fun x hx=>?_⟩
 have hx0:=(Al4 ok.nz).mpr hx
 rw [K2 n1,n4,Iw] at hx0
 by_cases h1:x∈Ay es
 . exact .inl h1
 by_cases h2:x∈Ay fs
 . exact .inr h2
 . rw [Dx h1,Dx h2] at hx0
   simp at hx0
theorem A20 {ms:Ms}{k n x:Int} (h:x∈Ay (addI ms k n)):x∈Ay ms\/x=k:=by
 unfold addI at h
 split at h
 . obtain⟨r,hr,rfl⟩:=List.mem_map.mp h
   exact .inl (List.mem_map.mpr ⟨r,(List.mem_filter.mp hr).1,rfl⟩)
 . obtain⟨r,hr,rfl⟩:=List.mem_map.mp h
   rcases Aj0 hr with z | z
   . exact .inl (List.mem_map.mpr ⟨r,z,rfl⟩)
   . rw [z];exact .inr rfl
theorem Wx {fs:List Int}{n x:Int}:∀{i:Nat},i<=fs.length->x∈Ay (Lb [] fs n i)->x∈fs
 | 0,_,h=>by simp [Lb,Ay] at h
 | i+1,hi,h=>by
   rcases A20 (show x∈Ay (addI (Lb [] fs n i) (fs.getD i 0) (sgn n i)) from h) with z | z
   . exact Wx (by omega) z
   . rw [z,List.getD_eq_getElem?_getD,List.getElem?_eq_getElem (by omega)]
     exact List.getElem_mem _
theorem Top.look {p:Int}{ms:Ms}{b:Int} (h:OkM p ms) (t:Top ms b):Bd ms b=some (getI ms b)/\0<getI ms b/\getI ms b<p:=by
 obtain⟨r,hr,rfl⟩:=List.mem_map.mp t.mem
 have e:=Gy h.nd hr
 have e2:getI ms r.1=r.2:=by unfold getI;rw [e];rfl
 rw [e2]
 exact ⟨e,h.bd r hr⟩
theorem ndvd {p v:Int} (h0:0<v) (h1:v<p):¬p∣v:=fun z=>by have:=Int.le_of_dvd h0 z;omega
structure Hj (H:Hp) (l en:Addr) (ms:List Ms):Prop where
 ex:∃ ds:List Addr,H l=some (.lst (ds.map V.ref))/\ds.length=ms.length/\∀ (i:Nat) d m,ds[i]?=some d->ms[i]?=some m->H d=some (.dK (cK m))/\d≠en
structure D7 (K:W.Frag) (CG:Addr) (H:Hp) (g pc sh ed en:Addr) (p:Int) (xs:List (List Int)) (es ss:List Ms) (bs:Ms):Prop where
 ob:∃ dx fs,H g=some (.ins CG dx fs)/\fs.lookup ("prime":Str)=some (.int p)/\fs.lookup ("pieces":Str)=some (.ref pc)/\fs.lookup ("sheets":Str)=some (.ref sh)/\fs.lookup ("edges":Str)=some (.ref ed)/\fs.lookup ("enders":Str)=some (.ref en) ∧
  (fs.lookup ("grow":Str)=none/\fs.lookup ("settled":Str)=none/\fs.lookup ("take_back":Str)=none/\fs.lookup ("shape":Str)=none/\fs.lookup ("paper":Str)=none/\fs.lookup ("pairs":Str)=none/\fs.lookup ("alive":Str)=none)
 pcs:∃ us,H pc=some (.lst us)/\Reps K H us (xs.map tI)
 eds:Hj H ed en es
 shs:Hj H sh en ss
 ens:H en=some (.dK (cK bs))
 ne:pc≠sh/\pc≠ed/\sh≠ed
 gw:Om p xs es ss bs
 pr:E9 p/\p<98
def W4 (pc sh ed en:Addr):Addr->Prop:=fun a=>a=pc\/a=sh\/a=ed\/a=en
def FrG (pc sh ed en:Addr) (H H':Hp):Prop:=∀ c o,¬W4 pc sh ed en c->H c=some o->H' c=some o
theorem FrG.of {pc sh ed en:Addr}{H H':Hp} (s:Same H H'):FrG pc sh ed en H H':=fun c o _ e=>s c o e
theorem FrG.trans {pc sh ed en:Addr}{H H1 H2:Hp} (a:FrG pc sh ed en H H1) (b:FrG pc sh ed en H1 H2):FrG pc sh ed en H H2:=fun c o n e=>b c o n (a c o n e)
theorem FrG.up {pc sh ed en c:Addr}{H:Hp}{o:HO} (h:W4 pc sh ed en c):FrG pc sh ed en H (upd H c o):=fun d u n e=>by
 have hn:d≠c:=fun z=>by subst z;exact n h
 rw [Ae hn]
 exact e
def Mut (H:Hp) (c:Addr):Prop:=(∃ us,H c=some (.lst us))\/∃ kvs,H c=some (.dK kvs)
section
variable {K:W.Frag}{CG:Addr}{H H':Hp}{g pc sh ed en:Addr}{p:Int}{xs:List (List Int)}{es ss:List Ms}{bs:Ms}
theorem Hj.get {l:Addr}{ms:List Ms} (x:Hj H l en ms) {i:Nat}{m:Ms} (h:ms[i]?=some m):∃ (ds:List Addr) (d:Addr),H l=some (.lst (ds.map V.ref))/\ds[i]?=some d/\H d=some (.dK (cK m))/\d≠en:=by
 obtain⟨ds,h1,h2,h3⟩:=x.ex
 have hi:i<ds.length:=by rw [h2];exact (List.getElem?_eq_some_iff.mp h).1
 obtain⟨h4,h5⟩:=h3 i ds[i] m (List.getElem?_eq_getElem hi) h
 exact ⟨ds,ds[i],h1,List.getElem?_eq_getElem hi,h4,h5⟩
theorem Hj.same {l:Addr}{ms:List Ms} (x:Hj H l en ms) (s:Same H H'):Hj H' l en ms:=by
 obtain⟨ds,h1,h2,h3⟩:=x.ex
 exact ⟨ds,s _ _ h1,h2,fun i d m e1 e2=>⟨s _ _ (h3 i d m e1 e2).1,(h3 i d m e1 e2).2⟩⟩
theorem D7.same (x:D7 K CG H g pc sh ed en p xs es ss bs) (s:Same H H'):D7 K CG H' g pc sh ed en p xs es ss bs:=by
 obtain⟨dx,fs,h1,h2⟩:=x.ob
 obtain⟨us,h3,h4⟩:=x.pcs
 exact ⟨⟨dx,fs,s _ _ h1,h2⟩,⟨us,s _ _ h3,Reps.same s h4⟩,x.eds.same s,x.shs.same s,s _ _ x.ens,x.ne,x.gw,x.pr⟩
theorem D7.mut (x:D7 K CG H g pc sh ed en p xs es ss bs):∀ c,W4 pc sh ed en c->Mut H c:=by
 rintro c (rfl | rfl | rfl | rfl)
 . obtain⟨us,h,_⟩:=x.pcs
   exact .inl ⟨_,h⟩
 . obtain⟨ds,h,_⟩:=x.shs.ex
   exact .inl ⟨_,h⟩
 . obtain⟨ds,h,_⟩:=x.eds.ex
   exact .inl ⟨_,h⟩
 . exact .inr ⟨_,x.ens⟩
theorem FrG.t (x:D7 K CG H g pc sh ed en p xs es ss bs) (fr:FrG pc sh ed en H H'):Q5 H H':=by
 refine⟨fun b us e=>fr b _ (fun w=>?_) e,fun b o u e=>fr b _ (fun w=>?_) e⟩
 . rcases x.mut b w with ⟨_,z⟩|⟨_,z⟩<;>(rw [z] at e;cases e)
 . rcases x.mut b w with ⟨_,z⟩|⟨_,z⟩<;>(rw [z] at e;cases e)
theorem D7.put (x:D7 K CG H g pc sh ed en p xs es ss bs) {us:List V}{ds cs:List Addr}{xs':List (List Int)}{es' ss':List Ms}{bs':Ms} (hr:Reps K H us (xs'.map tI))
 (l1:ds.length=es'.length) (h1:∀ (i:Nat) d m,ds[i]?=some d->es'[i]?=some m->H d=some (.dK (cK m))/\d≠en) (l2:cs.length=ss'.length) (h2:∀ (i:Nat) d m,cs[i]?=some d->ss'[i]?=some m->H d=some (.dK (cK m))/\d≠en) (gw:Om p xs' es' ss' bs') :
 D7 K CG (upd (upd (upd (upd H pc (.lst us)) sh (.lst (cs.map V.ref))) ed (.lst (ds.map V.ref))) en (.dK (cK bs'))) g pc sh ed en p xs' es' ss' bs':=by
 obtain⟨dx,fs,a1,a2⟩:=x.ob
 obtain⟨n1,n2,n3⟩:=x.ne
 have mu:=x.mut
 have ins:∀{c:Addr}{o:HO},H c=some o->(∀ us,o≠.lst us)->c≠en->upd (upd (upd (upd H pc (.lst us)) sh (.lst (cs.map V.ref))) ed (.lst (ds.map V.ref))) en (.dK (cK bs')) c=some o:=fun {c o} e n m=>by
  obtain⟨_,q1,_⟩:=x.pcs
  obtain⟨_,q2,_⟩:=x.shs.ex
  obtain⟨_,q3,_⟩:=x.eds.ex
  rw [Ae m,Ae (fun z=>by rw [z,q3] at e;cases e;exact n _ rfl),Ae (fun z=>by rw [z,q2] at e;cases e;exact n _ rfl),Ae (fun z=>by rw [z,q1] at e;cases e;exact n _ rfl)]
  exact e
 have nen:∀{c:Addr}{us:List V},H c=some (.lst us)->c≠en:=fun {c us} e z=>by rw [z,x.ens] at e;cases e
 obtain⟨_,q1,_⟩:=x.pcs
 obtain⟨_,q2,_⟩:=x.shs.ex
 obtain⟨_,q3,_⟩:=x.eds.ex
 have ts:Q5 H (upd (upd (upd (upd H pc (.lst us)) sh (.lst (cs.map V.ref))) ed (.lst (ds.map V.ref))) en (.dK (cK bs'))) :=
  ⟨fun b us e=>ins e (fun _ z=>by cases z) (fun z=>by rw [z,x.ens] at e;cases e),fun b o u e=>ins e (fun _ z=>by cases z) (fun z=>by rw [z,x.ens] at e;cases e)⟩
 refine⟨⟨dx,fs,ins a1 (fun _ z=>by cases z) (fun z=>by rw [z,x.ens] at a1;cases a1),a2⟩,⟨us,?_,Reps.t ts (Lr _) hr⟩,⟨ds,?_,l1,fun i d m e1 e2=>?_⟩,⟨cs,?_,l2,fun i d m e1 e2=>?_⟩,Ac,x.ne,gw,x.pr⟩
 . rw [Ae (nen q1),Ae n2,Ae n1,Ac]
 . rw [Ae (nen q3),Ac]
 . obtain⟨c1,c2⟩:=h1 i d m e1 e2
   exact ⟨ins c1 (fun _ z=>by cases z) c2,c2⟩
 . rw [Ae (nen q2),Ae n3,Ac]
 . obtain⟨c1,c2⟩:=h2 i d m e1 e2
   exact ⟨ins c1 (fun _ z=>by cases z) c2,c2⟩
end
section
variable {H H' H0:Hp}{Z W:Addr->Prop}
end
section
variable {K:W.Frag}{CG:Addr}{H H':Hp}{g pc sh ed en:Addr}{p:Int}{xs:List (List Int)}{es ss:List Ms}{bs:Ms}{W:Addr->Prop}
end
section
variable (K:W.Frag) (CG:Addr)
def F9 (_K:W.Frag):Sp:=fun vs H Q _=>∃ (a:Addr) (ms:Ms) (p:Int),vs=[.ref a,.int p]/\H a=some (.dK (cK ms))/\ms.length<=1000/\nd ms/\0<p/\newC H (modI p ms) Q
def O2 (_K:W.Frag):Sp:=fun vs H Q _=>∃ (p:Int),vs=[.int p]/\E9 p/\p<98/\∀ H',Same H H'->Q (.bl true) H'
def Yf:Sp:=fun vs H Q _=>∃ n p:Int,vs=[.int n,.int p]/\E9 p/\p<98/\¬p∣n/\∀ (L:Addr) (x y:Int) (H':Hp),Same H H'->SqT K H' L [.int 1,.int x,.int y]->p∣1-x*n->Q (.ref L) H'
def Tn (_K:W.Frag):Sp:=fun vs H Q _=>∃ n p:Int,vs=[.int n,.int p]/\E9 p/\p<98/\¬p∣n/\∀ (f:Int) (H':Hp),Same H H'->0<=f->f<p->p∣1-f*n->Q (.int f) H'
def To:Sp:=fun vs H Q _=>∃ (a:Addr) (th:V) (e:DE) (xs:List (List Int)),vs=[.ref a,th]/\LT K H (.ref a) xs/\RepE K H th e/\∀ H',Same H H'->Q (.bl (Bb6 xs e)) H'
def Lf:Sp:=fun vs H Q _=>∃ (g dx:Addr) (p:Int),vs=[.ref g,.int p]/\H g=some (.ins CG dx [])/\E9 p/\p<98 ∧
 ∀ (pc sh ed en:Addr) (H':Hp),H pc=none->H sh=none->H ed=none->H en=none->SameX g H H'->D7 K CG H' g pc sh ed en p [] [] [] []->Q .non H'
end
theorem mod_take {p:Int}{ms:Ms}{i:Nat}{q:Int × Int} (hq:ms[i]?=some q):modI p (ms.take (i+1))=if q.2%p=0 then modI p (ms.take i) else modI p (ms.take i)++[(q.1,q.2%p)]:=by
 unfold modI
 rw [List.take_succ,hq,List.filter_append,List.map_append]
 show _++((List.filter _ [q]).map _)=_
 by_cases h:q.2%p=0
 . rw [if_pos h,List.filter_cons_of_neg (by simpa using h)]
   simp
 . rw [if_neg h,List.filter_cons_of_pos (by simpa using h)]
   rfl
section
variable {K:W.Frag}{CG CP CS:Addr}
end
theorem init_step {H Hk:Hp}{g a C dx:Addr}{fs:List (Str × V)} (fs':List (Str × V)) {o:HO} (sx:SameX g H Hk) (eg:Hk g=some (.ins C dx fs)) (ha:Hk a=none) :
 SameX g H (upd (upd Hk a o) g (.ins C dx fs'))/\upd (upd Hk a o) g (.ins C dx fs') g=some (.ins C dx fs')/\upd (upd Hk a o) g (.ins C dx fs') a=some o/\(∀ b q,b≠g->Hk b=some q->upd (upd Hk a o) g (.ins C dx fs') b=some q)/\H a=none/\a≠g:=by
 have hag:a≠g:=fun z=>by rw [z,eg] at ha;cases ha
 have pers:∀ b q,b≠g->Hk b=some q->upd (upd Hk a o) g (.ins C dx fs') b=some q:=fun b q n e=>by rw [Ae n,Ae (fun z=>by rw [z,ha] at e;cases e)];exact e
 refine⟨fun b q n e=>pers b q n (sx b q n e),Ac,by rw [Ae hag,Ac],pers,?_,hag⟩
 cases e:H a with
 | none=>rfl
 | some q=>have:=sx a q hag e;rw [ha] at this;cases this
theorem Z3 (ms:Ms):(cK ms).map (·.1)=(Ay ms).map fun k=>(.inl k:Key):=by
 unfold cK Ay
 rw [List.map_map,List.map_map]
 rfl
theorem Z2 {ms:Ms} (h:ms≠[]):Ay ms≠[]:=fun z=>h (by unfold Ay at z;simpa using z)
theorem Af4 {H H1:Hp}{a:Addr}{o:HO} (h:H a=none) (s:Kh a (upd H a o) H1):Same H H1:=fun c q e=>by
 have n:c≠a:=Al e h
 exact s c q n (by rw [Ae n];exact e)
theorem m9 (l:List Addr) (a:Addr):l.map V.ref++[.ref a]=(l++[a]).map V.ref:=by rw [List.map_append];rfl
theorem Qn {H:Hp}{en d:Addr}{ds:List Addr}{ms:List Ms}{m:Ms} (hl:ds.length=ms.length) (h:∀ (i:Nat) d m,ds[i]?=some d->ms[i]?=some m->H d=some (.dK (cK m))/\d≠en) (hd:H d=some (.dK (cK m))) (hn:d≠en) :
 (ds++[d]).length=(ms++[m]).length/\∀ (i:Nat) d' m',(ds++[d])[i]?=some d'->(ms++[m])[i]?=some m'->H d'=some (.dK (cK m'))/\d'≠en:=by
 refine⟨by simp [hl],fun i d' m' e1 e2=>?_⟩
 rcases Db e1 with ⟨h1,e1⟩|⟨h1,rfl⟩
 . rcases Db e2 with ⟨_,e2⟩|⟨h2,_⟩
   . exact h i d' m' e1 e2
   . omega
 . rcases Db e2 with ⟨h2,_⟩|⟨_,rfl⟩
   . omega
   . exact ⟨hd,hn⟩
theorem FrG.four {pc sh ed en:Addr}{H H7:Hp}{o1 o2 o3 o4:HO} (s:Same H H7):FrG pc sh ed en H (upd (upd (upd (upd H7 pc o1) sh o2) ed o3) en o4) :=
 ((((FrG.of s).trans (FrG.up (.inl rfl))).trans (FrG.up (.inr (.inl rfl)))).trans (FrG.up (.inr (.inr (.inl rfl))))).trans (FrG.up (.inr (.inr (.inr rfl))))
theorem V2 (n:Int) (ms:Ms):(A8 n ms).length<=ms.length:=by
 unfold A8
 split
 . exact Nat.zero_le _
 . rw [List.length_map];exact Nat.le_refl _
theorem Op {n:Int}{ms:Ms} (h:nd ms):nd (A8 n ms):=by
 unfold A8
 split
 . exact List.nodup_nil
 . exact Jm h _
theorem Aq6 {a f p:Int} (a0:0<a) (a1:a<p) (f0:0<=f) (f1:f<p) (hp:p<98):-(10000:Int) < -a*f/\-a*f<=0:=by
 have h1:a*f<=97*97:=Int.mul_le_mul (by omega) (by omega) f0 (by omega)
 have h2:0<=a*f:=Int.mul_nonneg (by omega) f0
 have e:-a*f=-(a*f):=Int.neg_mul a f
 omega
theorem lenF {f:Str}{v:V}{fs:List (Str × V)}{n:Nat} (h:fs.length<=n):(putF f v fs).length<=n+1:=Nat.le_trans (K4 f v fs) (by omega)
end Hb
namespace L2
open PySem PySem.Spec PyProof.Rows
structure PSsw (X:Cx) (ss:List Stmt) (t:TS):Prop where
 h:PSs X ss t
theorem Ag6 {X:Cx}{st:Stmt}{t u:TS}{i:Nat}{x:Str}{es:List Expr}{k:Nat}{p pos' pos:Pos}{rest:List Stmt}{ta:TA} (h1:PS X st t) (hN:X.N.Nodup) (hi:X.N[i]?=some x) (hx:Loc X.env.scope x) (ha:PAw X es ta) (hr:PSs X rest u)
 (hs:swapsWith (.Tuple es k p) (some (.Name x pos')) pos.line X.env=pure false:=by kernel_rfl) (hf:X.fn x=true\/X.env.scope.names.lookup x=some .local:=by first | exact .inl rfl | exact .inr rfl | assumption) :
 PSsw X (st::.Assign [.Name x pos'] (.Tuple es k p) pos::rest) (tSeq t (tSeq (tAsg (tTup ta) (Al6 i)) u)):=⟨Af h1 (Af (Ar hN hi hx (Ge ha.h) hs hf) hr)⟩
end L2
namespace Hb
open PySem L2
theorem A68 (n d:Nat):HT.sIx (n+1) d (some (-1))=n:=by
 show (if (-1:Int)<0 then ((-1:Int)+((n+1:Nat):Int)).toNat else min (-1:Int).toNat (n+1))=n
 rw [if_pos (by decide)]
 omega
theorem Au7 (us:List V) (y:V):cutV (us++[y]) none (some (-1))=us:=by
 unfold cutV
 rw [List.length_append,show us.length+[y].length=us.length+1 from rfl,A68,HT.sIx_none]
 simp
theorem Ad5 {g:TG}{te:TE}{D:Addr}{Q:Hp->Prop}{τ:St}{H:Hp}{K:W.Frag}{a b:Addr}{xs ys:List V}{n:Nat} (hn:xs.length=n/\ys.length=n) (Pv:Nat->List V->St->Hp->Prop) (h0:Pv 0 [] τ H) (hl:∀ i zs τ H,i<=n->Pv i zs τ H->SqT K H a xs/\SqT K H b ys)
 (hs:∀ i x y zs τ H p,xs[i]?=some x->ys[i]?=some y->Pv i zs τ H->H p=none->g (.ref p) τ (upd H p (.tup [x,y])) fun τ2 H2=>te τ2 H2 fun y H4=>H4 D=some (.lst zs)/\zs.length<sizeLine/\Pv (i+1) (zs++[y]) τ2 (upd H4 D (.lst (zs++[y]))))
 (hd:∀ zs τ H,Pv n zs τ H->Q H):RunC (Ityp K a b) g tYes te D Q τ H:=An6 hn Pv h0 hl (fun i x y zs τ H p e1 e2 q hp=>hs i x y zs τ H p e1 e2 q hp) hd
section
variable {K:W.Frag}{CG:Addr}{H H' H1 H2:Hp}{W:Addr->Prop}{g pc sh ed en:Addr}{p:Int}{xs:List (List Int)}{es ss:List Ms}{bs:Ms}
end
end Hb
namespace Hb
open PySem L2
theorem Ba2 {α:Type}{l:List α} (h:l.length=2):∃ x y,l=[x,y]:=by
 match l,h with
 | [x,y],_=>exact ⟨x,y,rfl⟩
theorem E9.split {p a u:Int} (hp:E9 p) (hu:¬p∣u) (h:p∣a*u):p∣a:=by
 have hg:Int.gcd u p=1:=by
  have h1:((Int.gcd u p:Nat):Int)∣p:=Int.gcd_dvd_right ..
  have h2:((Int.gcd u p:Nat):Int)∣u:=Int.gcd_dvd_left ..
  have h0:0<((Int.gcd u p:Nat):Int):=by
   have:Int.gcd u p≠0:=fun z=>by
    have:=(Int.gcd_eq_zero_iff.mp z).2
    have:=hp.two
    omega
   omega
  rcases hp.div h0 h1 with z | z
  . omega
  . rw [z] at h2;exact absurd h2 hu
 have hn:Nat.Coprime p.natAbs u.natAbs:=by
  unfold Nat.Coprime
  rw [Nat.gcd_comm]
  exact hg
 have h3:p.natAbs∣a.natAbs*u.natAbs:=by rw [←Int.natAbs_mul];exact Int.natAbs_dvd_natAbs.mpr h
 exact Int.natAbs_dvd_natAbs.mp (hn.dvd_of_dvd_mul_right h3)
theorem Yc {p:Int}{f:Nat->Int}:∀{n:Nat},(∀ j,j<n->p∣f j)->p∣sumN f n
 | 0,_=>⟨0,by simp [sumN]⟩
 | n+1,h=>Int.dvd_add (Yc fun j hj=>h j (by omega)) (h n (by omega))
theorem Yb {p:Int}{f g:Nat->Int}{n:Nat} (h:∀ j,j<n->p∣f j-g j):p∣sumN f n-sumN g n:=by
 have e:sumN f n-sumN g n=sumN (fun j=>f j-g j) n:=by
  have:sumN f n=sumN (fun j=>(f j-g j)+g j) n:=El fun k _=>by omega
  rw [this,Tj]
  omega
 rw [e]
 exact Yc h
theorem Af3 {p:Int}{f:Nat->Int}{i:Nat}:∀{n:Nat},i<n->(∀ j,j<n->j≠i->p∣f j)->p∣sumN f n->p∣f i
 | n+1,hi,h,hs=>by
   have hs:p∣sumN f n+f n:=hs
   by_cases z:i=n
   . subst z
     have h1:p∣sumN f i:=Yc fun j hj=>h j (by omega) (by omega)
     exact (Int.dvd_add_right h1).mp hs
   . have h1:p∣f n:=h n (by omega) (fun e=>z e.symm)
     exact Af3 (by omega) (fun j hj hn=>h j (by omega) hn) ((Int.dvd_add_left h1).mp hs)
structure Hw (p:Int) (xs:List (List Int)) (es ss:List Ms):Prop where
 own:∀ (i:Nat) s,ss[i]?=some s->getI s (i:Int)=1
 lev:∀ (i:Nat) s,ss[i]?=some s->∀ x∈Ay s,(xs.getD x.toNat []).length-1=(xs.getD i []).length-1
 bd:∀ (i:Nat) s e,ss[i]?=some s->es[i]?=some e->∀ x:Int,p∣sumN (fun j=>getI s (j:Int)*oft (xs.getD j []) x) xs.length-getI e x
section
variable {p:Int}{xs:List (List Int)}{es ss:List Ms}{bs:Ms}
theorem A29 (x:Int):getI [] x=0:=by simp [getI,Bd]
theorem free {p:Int} (hp:E9 p) {n m:Nat} (e:Nat->Int->Int) (top:Nat->Int->Prop) (a:Nat->Int) (h1:∀ j t,j<m->top j t->0<=t/\t<(n:Int)/\¬p∣e j t) (h2:∀ j t x,top j t->t<x->e j x=0) (h3:∀ i j t,top i t->top j t->i=j)
 (h4:∀ j,j<m->(∃ t,top j t)\/∀ x,e j x=0) (hz:∀ y,p∣sumN (fun j=>a j*e j y) m):∀ (d j:Nat) (t:Int),j<m->top j t->n-t.toNat<=d->p∣a j
 | 0,j,t,hj,ht,hd=>by
   obtain⟨x0,x1,_⟩:=h1 j t hj ht
   omega
 | d+1,j,t,hj,ht,hd=>by
   obtain⟨x0,x1,x2⟩:=h1 j t hj ht
   refine hp.split x2 (Af3 (f:=fun j=>a j*e j t) hj (fun j' hj' hn=>?_) (hz t))
   show p∣a j'*e j' t
   rcases h4 j' hj' with ⟨t',ht'⟩ | h0
   . obtain⟨y0,y1,_⟩:=h1 j' t' hj' ht'
     by_cases c:t'<t
     . rw [h2 j' t' t ht' c,Int.mul_zero];exact Int.dvd_zero p
     . by_cases c2:t'=t
       . subst c2;exact absurd (h3 _ _ _ ht' ht) hn
       . have:=free hp e top a h1 h2 h3 h4 hz d j' t' hj' ht' (by omega)
         exact Int.dvd_trans this (Int.dvd_mul_right ..)
   . rw [h0,Int.mul_zero];exact Int.dvd_zero p
end
end Hb
namespace Hb
open PySem L2
structure Ol (p:Int) (xs:List (List Int)) (q:List Int) (ms me:Ms):Prop where
 own:getI ms (xs.length:Int)=1
 lev:∀ x∈Ay ms,x=(xs.length:Int)\/(x<(xs.length:Int)/\(xs.getD x.toNat []).length-1=q.length-1)
 bd:∀ y:Int,p∣sumN (fun j=>getI ms (j:Int)*oft ((xs++[q]).getD j []) y) (xs.length+1)-getI me y
section
variable {p:Int}{xs:List (List Int)}{q:List Int}{es ss:List Ms}{bs ms me:Ms}
theorem c5 (a p:Int):p∣a-a%p:=by
 have:=Int.mul_ediv_add_emod a p
 exact ⟨a / p,by omega⟩
theorem Al3 (k x:Int):getI [(k,1)] x=if x=k then 1 else 0:=by
 unfold getI Bd
 by_cases h:x=k
 . subst h;simp
 . rw [if_neg h]
   have:¬k=x:=fun z=>h z.symm
   simp [this]
theorem Ol.first (hq:∀ f∈q,0<=f):Ol p xs q [((xs.length:Int),1)] (modI p (addF [] q 1)):=by
 refine⟨by rw [Al3,if_pos rfl],fun x hx=>?_,fun y=>?_⟩
 . simp [Ay] at hx
   exact .inl hx
 . have e:sumN (fun j=>getI [((xs.length:Int),1)] (j:Int)*oft ((xs++[q]).getD j []) y) (xs.length+1)=oft q y:=by
    have e2:sumN (fun j=>getI [((xs.length:Int),1)] (j:Int)*oft ((xs++[q]).getD j []) y) (xs.length+1)=sumN (fun j=>(if j=xs.length then 1 else 0)*oft ((xs++[q]).getD j []) y) (xs.length+1):=El fun j _=>by
     rw [Al3]
     by_cases h:j=xs.length
     . rw [if_pos h,if_pos (by omega)]
     . rw [if_neg h,if_neg (by omega)]
    rw [e2,Sn,if_pos (by omega),Ow]
   have nad:nd (addF [] q 1):=Ot (ms:=[]) (by simp [nd]) q 1 q.length
   have g:getI (addF [] q 1) y=oft q y:=by
    have:=P8 [] q 1 y q.length
    rw [A29,Int.zero_add,Int.mul_one] at this
    exact this
   rw [e,K2 nad,g]
   exact c5 _ _
theorem Ol.step {i:Nat}{n:Int}{s e:Ms} (hp:2<=p) (h:Ol p xs q ms me) (g:Om p xs es ss bs) (sh:Hw p xs es ss) (hs:ss[i]?=some s) (he:es[i]?=some e) (o1:OkM p ms) (o2:OkM p me) (hl:(xs.getD i []).length-1=q.length-1) :
 Ol p xs q (modI p (Do ms (A8 n s))) (modI p (Do me (A8 n e))):=by
 have hil:i<xs.length:=by rw [←g.ls];exact (List.getElem?_eq_some_iff.mp hs).1
 obtain⟨oS,kS⟩:=g.sok i s hs
 obtain⟨oE,kE⟩:=g.eok i e he
 obtain⟨n1,_,_,g1⟩:=K0 (A8 n s) ms o1.nd o1.nz (Op oS.nd)
 obtain⟨n2,_,_,g2⟩:=K0 (A8 n e) me o2.nd o2.nz (Op oE.nd)
 have c1:=(Xl (p:=p) (n:=n) (by omega) o1 oS).2
 have s0:getI s (xs.length:Int)=0:=Dx fun hk=>by have:=kS _ hk;omega
 refine⟨?_,fun x hx=>?_,fun y=>?_⟩
 . rw [K2 n1,g1,Iw,h.own,s0,Int.mul_zero,Int.add_zero]
   exact Int.emod_eq_of_lt (by decide) (by omega)
 . rcases c1 x hx with z | z
   . exact h.lev x z
   . have k1:=kS x z
     have l1:=sh.lev i s hs x z
     exact .inr ⟨by omega,by omega⟩
 . have a1:=h.bd y
   have a2:=sh.bd i s e hs he y
   have e0:sumN (fun j=>getI s (j:Int)*oft ((xs++[q]).getD j []) y) (xs.length+1)=sumN (fun j=>getI s (j:Int)*oft (xs.getD j []) y) xs.length:=by
    show sumN _ xs.length+getI s (xs.length:Int)*_=_
    rw [s0,Int.zero_mul,Int.add_zero]
    exact El fun j hj=>by rw [C9 hj]
   have e1:p∣sumN (fun j=>(getI ms (j:Int)+n*getI s (j:Int))*oft ((xs++[q]).getD j []) y) (xs.length+1)-sumN (fun j=>getI (modI p (Do ms (A8 n s))) (j:Int)*oft ((xs++[q]).getD j []) y) (xs.length+1):=Yb fun j _=>by
    rw [←Int.sub_mul,K2 n1,g1,Iw]
    exact Int.dvd_trans (c5 _ _) (Int.dvd_mul_right ..)
   have e2:sumN (fun j=>(getI ms (j:Int)+n*getI s (j:Int))*oft ((xs++[q]).getD j []) y) (xs.length+1)=sumN (fun j=>getI ms (j:Int)*oft ((xs++[q]).getD j []) y) (xs.length+1)+n*sumN (fun j=>getI s (j:Int)*oft (xs.getD j []) y) xs.length:=by
    rw [←e0,←V3,←Tj]
    exact El fun j _=>by rw [Int.add_mul,Int.mul_assoc]
   rw [e2] at e1
   have e3:p∣(getI me y+n*getI e y)-getI (modI p (Do me (A8 n e))) y:=by
    rw [K2 n2,g2,Iw]
    exact c5 _ _
   generalize sumN (fun j=>getI (modI p (Do ms (A8 n s))) (j:Int)*oft ((xs++[q]).getD j []) y) (xs.length+1)=A at e1 ⊢
   generalize sumN (fun j=>getI ms (j:Int)*oft ((xs++[q]).getD j []) y) (xs.length+1)=B at a1 e1
   generalize sumN (fun j=>getI s (j:Int)*oft (xs.getD j []) y) xs.length=C at a2 e1
   generalize getI (modI p (Do me (A8 n e))) y=E at e3 ⊢
   have a3:p∣n*(C-getI e y):=Int.dvd_trans a2 (Int.dvd_mul_left ..)
   rw [Int.mul_sub] at a3
   have t:=Int.dvd_add (Int.dvd_add (Int.dvd_sub (Int.dvd_add a1 a3) (Int.dvd_refl p)) (Int.dvd_refl p)) e3
   have t2:=Int.dvd_sub t e1
   have:B-getI me y+(n*C-n*getI e y)-p+p+(getI me y+n*getI e y-E)-(B+n*C-A)=A-E:=by omega
   rw [this] at t2
   exact t2
theorem Hw.nil:Hw p [] [] []:=⟨fun i s h=>by simp at h,fun i s h=>by simp at h,fun i s e h=>by simp at h⟩
theorem Hw.grow (g:Om p xs es ss bs) (sh:Hw p xs es ss) (h:Ol p xs q ms me):Hw p (xs++[q]) (es++[me]) (ss++[ms]):=by
 refine⟨fun i s hs=>?_,fun i s hs x hx=>?_,fun i s e hs he y=>?_⟩
 . rcases Db hs with ⟨_,hs⟩|⟨rfl,rfl⟩
   . exact sh.own i s hs
   . rw [g.ls];exact h.own
 . rcases Db hs with ⟨hl,hs⟩|⟨rfl,rfl⟩
   . rw [g.ls] at hl
     have k1:=(g.sok i s hs).2 x hx
     rw [C9 (by omega),C9 hl]
     exact sh.lev i s hs x hx
   . rw [g.ls,Ow]
     rcases h.lev x hx with z|⟨z1,z2⟩
     . subst z
       rw [show ((xs.length:Nat):Int).toNat=xs.length by omega,Ow]
     . by_cases h0:x<0
       . rw [show x.toNat=0 by omega] at z2 ⊢
         by_cases hx0:0<xs.length
         . rw [C9 hx0];exact z2
         . have:xs=[]:=List.length_eq_zero_iff.mp (by omega)
           subst this
           rfl
       . rw [C9 (by omega)];exact z2
 . rw [List.length_append,show xs.length+[q].length=xs.length+1 from rfl]
   rcases Db hs with ⟨hl,hs⟩|⟨hl,rfl⟩
   . rcases Db he with ⟨_,he⟩|⟨hl2,_⟩
     . have s0:getI s (xs.length:Int)=0:=Dx fun hk=>by have:=(g.sok i s hs).2 _ hk;rw [g.ls] at hl;omega
       have e0:sumN (fun j=>getI s (j:Int)*oft ((xs++[q]).getD j []) y) (xs.length+1)=sumN (fun j=>getI s (j:Int)*oft (xs.getD j []) y) xs.length:=by
        show sumN _ xs.length+getI s (xs.length:Int)*_=_
        rw [s0,Int.zero_mul,Int.add_zero]
        exact El fun j hj=>by rw [C9 hj]
       rw [e0]
       exact sh.bd i s e hs he y
     . rw [g.ls] at hl;rw [g.le] at hl2;omega
   . rcases Db he with ⟨hl2,_⟩|⟨_,rfl⟩
     . rw [g.ls] at hl;rw [g.le] at hl2;omega
     . exact h.bd y
end
end Hb
namespace L2
open PySem PySem.Spec PyProof.Rows
section
variable {prog:Program}{w:World}{A:Around}{R:Result->Shared->Prop}
end
end L2
namespace Hb
open PySem L2
def AnsE (me:Ms) (r:V):Prop:=(me=[]/\r=.non)\/∃ b,Top me b/\r=.int b
section
variable (K:W.Frag) (CG:Addr)
def Tm:Sp:=fun vs H Q _=>∃ (a:Addr) (us:List V),vs=[.ref a]/\SqL K H a us/\us.length<=40/\Q .non H
def Ie:Sp:=fun vs H Q _=>∃ (g pc sh ed en s e:Addr) (p:Int) (xs:List (List Int)) (es ss:List Ms) (bs ms me:Ms) (l:Nat) (pq:List Int),vs=[.ref g,.ref s,.ref e]/\D7 K CG H g pc sh ed en p xs es ss bs/\H s=some (.dK (cK ms))/\H e=some (.dK (cK me))/\s≠en/\e≠en/\OkM p ms/\OkM p me ∧
 (∀ x∈Ay ms,0<=x/\x<=(xs.length:Int))/\(∀ x∈Ay me,0<=x/\x<(xs.length:Int)/\(xs.getD x.toNat []).length-1+1=l)/\Hw p xs es ss/\Ol p xs pq ms me/\l=pq.length-1 ∧
 ∀ (t s' e':Addr) (ms' me':Ms) (H':Hp),Same H H'->H' t=some (.tup [.ref s',.ref e'])->H' s'=some (.dK (cK ms'))->H' e'=some (.dK (cK me'))->s'≠en->e'≠en->OkM p ms'->OkM p me'->(∀ x∈Ay ms',0<=x/\x<=(xs.length:Int)) →
   (∀ x∈Ay me',0<=x/\x<(xs.length:Int)/\(xs.getD x.toNat []).length-1+1=l)->(∀ b,Top me' b->Bd bs b=none)->Ol p xs pq ms' me'->Q (.ref t) H'
def O4:Sp:=fun vs H Q _=>∃ (g pc sh ed en:Addr) (v:V) (p:Int) (xs:List (List Int)) (q:List Int) (es ss:List Ms) (bs:Ms),vs=[.ref g,v]/\D7 K CG H g pc sh ed en p xs es ss bs/\TI K H v q/\Ka xs (tI q)=true/\xs.length<40/\Hw p xs es ss ∧
 ∀ (r:V) (me ms bs':Ms) (H':Hp),FrG pc sh ed en H H'->D7 K CG H' g pc sh ed en p (xs++[q]) (es++[me]) (ss++[ms]) bs'->Hw p (xs++[q]) (es++[me]) (ss++[ms])->AnsE me r->Q r H'
def O3:Sp:=fun vs H Q _=>∃ (g pc sh ed en:Addr) (p:Int) (xs:List (List Int)) (es ss:List Ms) (bs s:Ms) (i:Nat),vs=[.ref g,.int (i:Int)]/\D7 K CG H g pc sh ed en p xs es ss bs/\ss[i]?=some s/\newC H s Q
end
end Hb
namespace Hb
open PySem L2
theorem A32 {xs:List (List Int)}{q:List Int} (h:Fits xs q):Ka xs (tI q)=true:=by
 show Ka xs (.tup (nums q))=true
 rw [E7]
 have hl:(nums q).length=q.length:=by unfold nums;rw [List.length_map]
 have hin:∀ f∈q,0<=f/\f<(xs.length:Int)/\(xs.getD f.toNat []).length-1+1=q.length-1/\xs[f.toNat]?=some (xs.getD f.toNat []):=fun f hf=>by
  obtain⟨r,hr,hlv⟩:=h.bel f hf
  have h0:=h.low f hf
  have hlt:=(List.getElem?_eq_some_iff.mp hr).1
  have e:xs.getD f.toNat []=r:=by rw [List.getD_eq_getElem?_getD,hr];rfl
  rw [e]
  exact ⟨h0,by omega,hlv,hr⟩
 simp only [Bool.and_eq_true,Bool.or_eq_true,decide_eq_true_eq]
 refine⟨⟨?_,?_⟩,?_⟩
 . rw [hl]
   unfold cntB
   rcases h.cnt with z | z | z | z<;>rw [z]<;>rfl
 . rw [List.all_eq_true]
   intro d hd
   obtain⟨f,hf,rfl⟩:=List.mem_map.mp hd
   obtain⟨h0,h1,h2,_⟩:=hin f hf
   show (decide (0<=f)&&decide (f<(xs.length:Int))&&decide (levI (xs.getD f.toNat []).length=levI (nums q).length-1))=true
   rw [hl,Fv,Fv,decide_eq_true h0,decide_eq_true h1,decide_eq_true (by omega)]
   rfl
 . rw [hl,Aj2]
   by_cases hq:levI q.length<2
   . exact .inl hq
   right
   rw [Fv] at hq
   unfold Jk
   rw [List.all_eq_true]
   intro j hj
   rw [List.all_eq_true]
   intro i hi
   have hj':=List.mem_range.mp hj
   have hi':=List.mem_range.mp hi
   have ej:q[j]?=some (q.getD j 0):=by rw [List.getD_eq_getElem?_getD,List.getElem?_eq_getElem hj'];rfl
   have ei:q[i]?=some (q.getD i 0):=by rw [List.getD_eq_getElem?_getD,List.getElem?_eq_getElem (by omega)];rfl
   obtain⟨_,_,_,rj⟩:=hin _ (List.mem_of_getElem? ej)
   obtain⟨_,_,_,ri⟩:=hin _ (List.mem_of_getElem? ei)
   have:=h.agr (by omega) i j _ _ _ _ hi' ej ei rj ri
   unfold Ny
   rw [decide_eq_true_eq]
   have e1:∀ (l:List Int) (k:Nat),l.getD k 0=l[k]?.getD 0:=fun l k=>List.getD_eq_getElem?_getD
   rw [e1 (xs.getD (q.getD j 0).toNat []) i,e1 (xs.getD (q.getD i 0).toNat []) (j-1),this]
end Hb
namespace L2
open PySem PySem.Spec PyProof.Rows
def Bc7:Int:=reduceHash (Builtin.Tuple.tupleHashOf [hashInt 0])
def hsh:V->Int
 | .int i=>hashInt i
 | .bl b=>if b then 1 else 0
 | .non=>0xFCA86420
 | .ref _=>Bc7
 | _=>0
abbrev Ent:List (V × V)->List DictEntry->Prop:=Paired fun p e=>RelV p.1 e.key/\RelV p.2 e.val/\e.hash=hsh p.1
def OddObj (o:Obj) (kvs:List (V × V)):Prop:=o.ExactDict/\∃ es ep,o.data=.dict es ep/\Ent kvs es.toList
inductive KeyV:Value->Prop
 | non:KeyV .none
 | bl (b:Bool):KeyV (.bool b)
 | int (i:Int) (t:Tok):KeyV (.int i t)
 | ref (a:Addr):KeyV (.ref a)
section
variable {prog:Program}{w:World}{A:Around}{E:Value->Shared->Prop}{s:Shared}
theorem b6 {d:Addr}{o:Obj}{es:Array DictEntry}{ep:Nat}{key:Value}{h:Int}{Q:Option Nat->Shared->Prop} (hv:KeyV key) (ho:s.heap.get? d=some o) (hd:o.data=.dict es ep)
 (hh:∀ e∈es,e.hash≠h) (hk:∀ e∈es,e.key≠key) (q:Q none s):wpAny (model prog w) A (dictFind d key h) Q E s:=by
 have hp:placesWithHash es.size (fun i=>es[i]?.map (·.hash)) h=[]:=by
  unfold placesWithHash
  rw [List.filter_eq_nil_iff]
  intro i hi
  have hl:i<es.size:=List.mem_range.mp hi
  show ¬((es[i]?.map (·.hash))==some h)=true
  rw [Array.getElem?_eq_getElem hl,Option.map_some]
  have:=hh es[i] (Array.getElem_mem hl)
  simpa using this
 unfold dictFind
 try with_reducible refine wpAny_holding ?_
 refine wpAny_bind (wpAny_dictEntries ho hd ?_)
 cases hv with
 | ref a =>
   rw [hp]
   try dsimp only
   have hany:¬(es.any fun e=>e.key==Value.ref a&&e.hash != h)=true:=by
    rw [←Array.any_toList,List.any_eq_true]
    rintro ⟨e,hin,hc⟩
    have:=hk e (Array.mem_toList_iff.mp hin)
    simp only [Bool.and_eq_true,beq_iff_eq] at hc
    exact this hc.1
   rw [if_neg (by simp [carriedByValue]),if_neg hany]
   exact wpAny_bind (wpAny_pure (wpAny_pure q))
 | _=>rw [hp];exact wpAny_pure q
end
end L2
namespace L2
open PySem PySem.Spec PyProof.Rows
def XO (a:Addr) (o:Obj):HO:=.ext fun h=>h.get? a=some o
def Vw (H:Hp) (a:Addr) (kvs:List (V × V)):Prop:=(a==sysModules)=false/\∃ o,H a=some (XO a o)/\OddObj o kvs
def IsKey (H:Hp) (y:V):Prop:=(∃ i,y=.int i)\/(∃ b,y=.bl b)\/y=.non\/∃ t,y=.ref t/\H t=some (.tup [.int 0])
theorem Bc6 {P:Program}{w:World}{H:Hp}{h:Heap}{a:Addr}{o:Obj} (e:h.get? a=some o):ObjOk P w H h a (XO a o):=⟨e,⟨o,e⟩,fun h1 h2 q k=>k o q⟩
theorem IsKey.val {H:Hp}{y:V}{u:Value} (k:IsKey H y) (r:RelV y u):KeyV u:=by
 rcases k with ⟨i,rfl⟩|⟨b,rfl⟩ | rfl|⟨t,rfl,_⟩
 . obtain⟨t,rfl⟩:=r;exact .int i t
 . cases r;exact .bl b
 . cases r;exact .non
 . cases r;exact .ref t
section
variable {X:Cx}{Aa:List (Addr × Obj)}{σ:St}{H:Hp}{s:Shared}{a:Addr}{y v:V}{u r:Value}{A:Around}{E:Value->Shared->Prop}{o:Obj}{kvs:List (V × V)}
theorem K1 (I:Inv X Aa σ H s) (e:H a=some (XO a o)):s.heap.get? a=some o:=(show ObjOk X.prog X.w H s.heap a (XO a o) from I.hok a _ e).1
theorem A28 {Q:Int->Shared->Prop} (hu:A.units<cLine) (I:Inv X Aa σ H s) (k:IsKey H y) (ry:RelV y u) (h:∀ tk,Q (hsh y) { s with toks:=tk }):wpAny (model X.prog X.w) A (pyHash u) Q E s:=by
 rcases k with ⟨i,rfl⟩|⟨b,rfl⟩ | rfl|⟨t,rfl,ht⟩
 . obtain⟨t,rfl⟩:=ry
   exact wpAny_pyHash_int (h _)
 . cases ry
   refine PySem.W.pyHash_slot (T:="bool") rfl F.slot_bool_hash entry_int_hash (args_int_hash _) (beq_builtin_none _) (.inr hu) ?_
   cases b
   . exact (show wpAny _ _ (do ret (←mkInt 0)) _ _ s from wpAny_bind (wpAny_mkInt (wpAny_pure ⟨_,_,rfl,h _⟩)))
   . exact (show wpAny _ _ (do ret (←mkInt 1)) _ _ s from wpAny_bind (wpAny_mkInt (wpAny_pure ⟨_,_,rfl,h _⟩)))
 . cases ry
   exact PySem.W.pyHash_slot (T:="NoneType") rfl F.slot_NoneType_hash F.entry_NoneType_hash (F.args_NoneType_hash_1 _) (beq_builtin_none _) (.inr hu) (wpAny_bind (wpAny_pure (wpAny_bind (wpAny_mkInt (wpAny_pure ⟨_,_,rfl,h _⟩)))))
 . cases ry
   have hk:IsTupleKey (mixKind X.prog X.w) s.heap [Sum.inl 0] t:=P0 (ks:=[Sum.inl 0]) I.hok (by simpa [kV] using ht)
   exact wpAny_pyHash_tuple hu hk (h _)
theorem Ent.mem {kvs:List (V × V)}{es:List DictEntry} (r:Ent kvs es):∀ e∈es,∃ p∈kvs,RelV p.1 e.key/\e.hash=hsh p.1:=by
 induction r with
 | nil=>intro e he;exact nomatch he
 | @cons p q ps qs h t ih =>
   intro e he
   rcases List.mem_cons.mp he with rfl | he
   . exact ⟨p,List.mem_cons_self,h.1,h.2.2⟩
   . obtain⟨p',h1,h2⟩:=ih e he
     exact ⟨p',List.mem_cons_of_mem _ h1,h2⟩
theorem Ent.get {kvs:List (V × V)}{es:List DictEntry} (r:Ent kvs es):∀{i:Nat}{p:V × V},kvs[i]?=some p->∃ e,es[i]?=some e/\RelV p.1 e.key/\RelV p.2 e.val/\e.hash=hsh p.1:=by
 induction r with
 | nil=>intro i p e;simp at e
 | @cons p' q ps qs h t ih =>
   intro i p e
   cases i with
   | zero =>
     have e':p'=p:=by simpa using e
     subst e'
     exact ⟨q,by simp,h⟩
   | succ i =>
     obtain⟨x,h1,h2⟩:=ih (i:=i) (p:=p) (by simpa using e)
     exact ⟨x,by simpa using h1,h2⟩
theorem Bb7 {ms:List (Key × V)} (I:Inv X Aa σ H s) (e:H a=some (.dK ms)) (hi:∀ p∈ms,∃ i,p.1=Sum.inl i):(a==sysModules)=false/\ms.length<=sizeLine/\∃ o,s.heap.get? a=some o/\OddObj o (ms.map fun p=>(kV p.1,p.2)):=by
 obtain⟨z,hs,vs,rel,o,es,ep,ho,hx,hd,hk,hp,hn⟩:=Ac6 I.hok e
 refine⟨hs,z,o,ho,hx,es,ep,hd,?_⟩
 have hk':∀ e∈es.toList,∃ k,(mixKind X.prog X.w).is k e.key=true/\e.hash=(mixKind X.prog X.w).hash k:=fun e he=>hk e (Array.mem_toList_iff.mp he)
 clear hk hn hd e z
 generalize es.toList=el at hk' hp
 induction hp generalizing ms with
 | nil=>cases rel;exact .nil
 | @cons x kv el' vs' h1 h2 h3 ih =>
   cases rel with
   | @cons p _ ps _ hpq ht =>
     refine .cons ?_ (ih (fun q hq=>hi q (List.mem_cons_of_mem _ hq)) ht (fun e he=>hk' e (List.mem_cons_of_mem _ he)))
     obtain⟨i,hpi⟩:=hi p List.mem_cons_self
     obtain⟨k',g1,g2⟩:=hk' x List.mem_cons_self
     have ek:kv.1=k':=(mixKind X.prog X.w).inj _ _ _ h1 g1
     have ep:p.1=kv.1:=hpq.1
     refine⟨(show RelV (kV p.1) x.key by rw [ep];exact Ak6 h1),(show RelV p.2 x.val by rw [h2];exact hpq.2),(show x.hash=hsh (kV p.1) from ?_)⟩
     rw [g2,←ek,←ep,hpi]
     rfl
end
section
variable {prog:Program}{w:World}{A:Around}{E:Value->Shared->Prop}{s:Shared}
theorem Wd {d:Addr}{o:Obj}{es:Array DictEntry}{ep:Nat}{Q:Value->Shared->Prop} (hs:(d==sysModules)=false) (ho:s.heap.get? d=some o) (hx:o.ExactDict) (hd:o.data=.dict es ep)
 (h:Q (.ref s.heap.objs.size) { s with heap:=s.heap.push { cls:=.type "dict_items",data:=.fields #[.ref d] } }):wpAny (model prog w) A (call (.builtin "dict.items") [.ref d]) Q E s:=by
 have hT:s.TypeIs (.ref d) "dict":=⟨o,ho,hx.1⟩
 refine wpAny_call_entry PySem.F.slot_dict_items hT PySem.F.entry_dict_items ?_ (PySem.F.args_dict_items_1 _)
 unfold Builtin.«dict.items»
 refine wpAny_bind ?_
 unfold Builtin.Dict.noArgs
 refine wpAny_bind (wpAny_notOrdered_dict hT (show wpAny _ _ (pure d) _ _ s from wpAny_pure ?_))
 show wpAny _ _ (Builtin.Dict.showsAll d>>=_) _ _ s
 unfold Builtin.Dict.showsAll
 rw [if_neg (by rw [hs];decide)]
 exact wpAny_bind (wpAny_pure (wpAny_bind (wpAny_newObj_type (wpAny_pure ⟨_,rfl,h⟩))))
theorem l0 {v d:Addr}{o:Obj}{es:Array DictEntry}{ep:Nat}{Q:Value->Shared->Prop} (hv:s.heap.IsItemsView v d) (ho:s.heap.get? d=some o) (hd:o.data=.dict es ep)
 (h:Q (.ref s.heap.objs.size) { s with heap:=s.heap.push { cls:=.type "dict_itemiterator",data:=.fields #[.none,.bool false,.ref d,.int 0 0,.int es.size 0,.int ep 0,.none,.none] } }) :
 wpAny (model prog w) A (pyIter (.ref v)) Q E s:=by
 have hT:=hv.typeIs
 obtain⟨ov,hov,hcv,hdv⟩:=hv
 refine wpAny_pyIter_slot hT F.slot_dict_items_iter (wpAny_call_entry F.slot_dict_items_iter hT F.entry_dict_items_iter ?_ (F.args_dict_items_iter_1 _))
 unfold Builtin.«dict_items.__iter__»
 refine wpAny_bind (wpAny_pure (wpAny_bind ?_))
 unfold Builtin.Dict_items.dictOf
 refine wpAny_bind (wpAny_field hov hdv (x:=.ref d) rfl (wpAny_pure (wpAny_bind ?_)))
 unfold Builtin.Dict_items.newIterator
 refine wpAny_bind (wpAny_dictEntries ho hd (wpAny_bind (wpAny_dictEpoch ho hd ?_)))
 simp only [show Builtin.Dict_items.ownsTuple "dict_itemiterator"=true by decide,if_true]
 refine wpAny_newObj_type (wpAny_pure ⟨_,rfl,"dict_itemiterator",_,⟨_,Heap.get?_push_size _ rfl,rfl⟩,F.slot_dict_itemiterator_next.lookup,?_⟩)
  (by simp only [sizeOk,Builtin.Dict_items.ownedTupleFields,List.size_toArray,List.length_append,List.length_cons,List.length_nil,sizeLine_eq];omega)
 simpa [rawInt,Builtin.Dict_items.ownedTupleFields] using h
theorem Ar1 {it d:Addr}{i ep:Nat}{o:Obj}{es:Array DictEntry}{ok ov:Value}{Q:Option Value->Shared->Prop} (hit:IsItemIter s.heap it d i es.size ep ok ov) (ho:s.heap.get? d=some o) (hd:o.data=.dict es ep) (hi:i<es.size)
 (h:∀ h',IsItemIterOut h' it d (i+1) es.size ep es[i].key es[i].val s.heap.objs.size->h'.get? s.heap.objs.size=some { cls:=.type "tuple",data:=.seq #[es[i].key,es[i].val] }->h'.objs.size=s.heap.objs.size+1 →
   (∀ b o,b≠it->s.heap.get? b=some o->h'.get? b=some o)->Q (some (.ref s.heap.objs.size)) { s with heap:=h' }):wpAny (model prog w) A (pyNext (.ref it)) Q E s:=by
 obtain⟨hp,g,dr,tk,os⟩:=s
 have hT:Shared.TypeIs ⟨hp,g,dr,tk,os⟩ (.ref it) "dict_itemiterator":=⟨_,hit,rfl⟩
 unfold pyNext
 refine wpAny_bind (wpAny_attempt (wpAny_callSpecial?_slot (name:=Str.ofString "__next__") hT F.slot_dict_itemiterator_next (wpAny_call_entry F.slot_dict_itemiterator_next hT F.entry_dict_itemiterator_next ?_ (F.args_dict_itemiterator_next_1 _))))
 refine wpAny_bind (wpAny_pure (wpAny_bind (wpAny_bind ?_)))
 first | refine wpAny_bind (wpAny_typeNameOfWhole_itemiter hT (wpAny_pure (wpAny_bind (wpAny_fieldsOf hit rfl ?_)))) | refine wpAny_bind (wpAny_typeNameOf_itemiter hT (wpAny_pure (wpAny_bind (wpAny_fieldsOf hit rfl ?_))))
 simp only [show Builtin.Dict_items.ownsTuple "dict_itemiterator"=true by decide,if_true]
 show wpAny _ _ (if (Value.ref d==Value.none)=true then _ else _) _ _ _
 have nz:¬(Value.ref d==Value.none)=true:=Bool.false_ne_true
 rw [if_neg nz]
 refine wpAny_bind (wpAny_pure (wpAny_bind (wpAny_dictEntries ho hd ?_)))
 rw [if_neg (by simp)]
 refine wpAny_bind (wpAny_pure (wpAny_bind (wpAny_dictEpoch ho hd ?_)))
 rw [if_neg (by simp)]
 refine wpAny_pure ?_
 simp only [show ¬((i:Int)<0) from by omega,if_false,Int.toNat_natCast,Array.getElem?_eq_getElem hi]
 refine wpAny_bind ?_
 first | refine wpAny_bind (wpAny_typeNameOfWhole_itemiter hT (wpAny_pure (wpAny_bind (wpAny_isOneOf_itemiter hT ?_)))) | refine wpAny_bind (wpAny_typeNameOf_itemiter hT (wpAny_pure (wpAny_bind (wpAny_isOneOf_itemiter hT ?_))))
 show wpAny _ _ (setField (.ref it) 3 (rawInt ((i:Int)+1))>>=_) _ _ ⟨hp,g,dr,tk,os⟩
 refine wpAny_bind (wpAny_setField_rec hit (by simp) fun g1 q1 k1=>?_)
 replace k1:Heap.SameBut it hp g1:=k1
 replace q1:IsItemIter g1 it d (i+1) es.size ep ok ov:=by
  have e:((i+1:Nat):Int)=(i:Int)+1:=by omega
  unfold IsItemIter
  rw [e]
  simpa [rawInt] using q1
 have hT1:Shared.TypeIs ⟨g1,g,dr,tk,os⟩ (.ref it) "dict_itemiterator":=⟨_,q1,rfl⟩
 refine wpAny_bind (wpAny_holding (wpAny_bind (wpAny_isOneOf_itemiter hT1 (wpAny_bind (wpAny_isOneOf_itemiter hT1 ?_)))))
 show wpAny _ _ (Builtin.Dict_items.pairFromOwner (.ref it) 6 es[i].key es[i].val) _ _ ⟨g1,g,dr,tk,os⟩
 unfold Builtin.Dict_items.pairFromOwner
 refine wpAny_bind (wpAny_newTuple ?_)
 have q2:IsItemIter (g1.push { cls:=.type "tuple",data:=.seq #[es[i].key,es[i].val] }) it d (i+1) es.size ep ok ov:=Heap.get?_push_of_some _ q1
 have z1:g1.objs.size=hp.objs.size:=k1.1
 have il:it<hp.objs.size:=Heap.lt_size hit
 have t2:(g1.push { cls:=.type "tuple",data:=.seq #[es[i].key,es[i].val] }).get? hp.objs.size=some { cls:=.type "tuple",data:=.seq #[es[i].key,es[i].val] }:=by rw [←z1];exact Heap.get?_push_size _ rfl
 have z2:(g1.push { cls:=.type "tuple",data:=.seq #[es[i].key,es[i].val] }).objs.size=hp.objs.size+1:=by rw [Heap.size_push,z1]
 have k2:∀ b o,b≠it->hp.get? b=some o->(g1.push { cls:=.type "tuple",data:=.seq #[es[i].key,es[i].val] }).get? b=some o:=fun b o hb e=>Heap.get?_push_of_some _ (k1.extBut b o hb e)
 generalize g1.push { cls:=.type "tuple",data:=.seq #[es[i].key,es[i].val] }=g2 at q2 t2 z2 k2
 show wpAny _ _ (Builtin.Dict_items.ownedTupleIsFree (.ref it)>>=_) _ _ ⟨g2,g,dr,tk,os⟩
 rw [z1]
 refine wpAny_bind ?_
 unfold Builtin.Dict_items.ownedTupleIsFree
 refine wpAny_bind (wpAny_field q2 rfl (x:=.none) rfl (wpAny_pure ?_))
 simp only [if_true]
 refine wpAny_bind (wpAny_field q2 rfl (x:=ok) rfl (wpAny_bind (wpAny_field q2 rfl (x:=ov) rfl ?_)))
 refine wpAny_bind (wpAny_setField_rec q2 (by simp) fun g3 q3 k3=>?_)
 replace k3:Heap.SameBut it g2 g3:=k3
 replace q3:IsItemIter g3 it d (i+1) es.size ep es[i].key ov:=q3
 refine wpAny_bind (wpAny_setField_rec q3 (by simp) fun g4 q4 k4=>?_)
 replace k4:Heap.SameBut it g3 g4:=k4
 replace q4:IsItemIter g4 it d (i+1) es.size ep es[i].key es[i].val:=q4
 refine wpAny_bind (wpAny_setField_rec q4 (by simp) fun g5 q5 k5=>?_)
 replace k5:Heap.SameBut it g4 g5:=k5
 replace q5:IsItemIterOut g5 it d (i+1) es.size ep es[i].key es[i].val hp.objs.size:=q5
 refine wpAny_bind (wpAny_setField_rec q5 (by simp) fun g6 q6 k6=>?_)
 replace k6:Heap.SameBut it g5 g6:=k6
 replace q6:IsItemIterOut g6 it d (i+1) es.size ep es[i].key es[i].val hp.objs.size:=q6
 have up:∀ b o,b≠it->g2.get? b=some o->g6.get? b=some o:=fun b o n e=>k6.extBut b o n (k5.extBut b o n (k4.extBut b o n (k3.extBut b o n e)))
 refine wpAny_bind (wpAny_letGo (wpAny_pure (wpAny_pure ⟨_,rfl,wpAny_pure (h g6 q6 (up _ _ (Nat.ne_of_gt il) t2) ?_ fun b o n e=>up b o n (k2 b o n e))⟩)))
 show g6.objs.size=hp.objs.size+1
 rw [k6.1,k5.1,k4.1,k3.1,z2]
theorem Ay8 {it d:Addr}{i ep:Nat}{o:Obj}{es:Array DictEntry}{ok ov:Value}{Q:Option Value->Shared->Prop} (hh:A.handled=none) (hit:IsItemIter s.heap it d i es.size ep ok ov) (ho:s.heap.get? d=some o) (hd:o.data=.dict es ep) (hi:es.size<=i)
 (h:∀ h',Heap.ExtBut it s.heap h'->Q none { s with heap:=h' }):wpAny (model prog w) A (pyNext (.ref it)) Q E s:=by
 have hT:s.TypeIs (.ref it) "dict_itemiterator":=⟨_,hit,rfl⟩
 unfold pyNext
 refine wpAny_bind (wpAny_attempt (wpAny_callSpecial?_slot (name:=Str.ofString "__next__") hT F.slot_dict_itemiterator_next (wpAny_call_entry F.slot_dict_itemiterator_next hT F.entry_dict_itemiterator_next ?_ (F.args_dict_itemiterator_next_1 _))))
 refine wpAny_bind (wpAny_pure (wpAny_bind (wpAny_bind ?_)))
 first | refine wpAny_bind (wpAny_typeNameOfWhole_itemiter hT (wpAny_pure (wpAny_bind (wpAny_fieldsOf hit rfl ?_)))) | refine wpAny_bind (wpAny_typeNameOf_itemiter hT (wpAny_pure (wpAny_bind (wpAny_fieldsOf hit rfl ?_))))
 simp only [show Builtin.Dict_items.ownsTuple "dict_itemiterator"=true by decide,if_true]
 show wpAny _ _ (if (Value.ref d==Value.none)=true then _ else _) _ _ s
 have nz:¬(Value.ref d==Value.none)=true:=Bool.false_ne_true
 rw [if_neg nz]
 refine wpAny_bind (wpAny_pure (wpAny_bind (wpAny_dictEntries ho hd ?_)))
 rw [if_neg (by simp)]
 refine wpAny_bind (wpAny_pure (wpAny_bind (wpAny_dictEpoch ho hd ?_)))
 rw [if_neg (by simp)]
 refine wpAny_pure ?_
 simp only [show ¬((i:Int)<0) from by omega,if_false,Int.toNat_natCast,Array.getElem?_eq_none hi]
 refine wpAny_bind ?_
 first | refine wpAny_bind (wpAny_typeNameOfWhole_itemiter hT (wpAny_pure ?_)) | refine wpAny_bind (wpAny_typeNameOf_itemiter hT (wpAny_pure ?_))
 show wpAny _ _ (setField (.ref it) 2 .none>>=_) _ _ s
 refine wpAny_bind (wpAny_setField hit rfl (by simp) ?_)
 show wpAny _ _ (newExc (.type "StopIteration") []>>=_) _ _ _
 refine wpAny_bind ?_
 simp only [newExc,newTuple]
 refine wpAny_bind (wpAny_newObj_type (wpAny_bind (m:=firstArgMember _ _) (wpAny_of_eq (a:=Value.none) (by first | rfl | (simp only [firstArgMember];rfl)) (wpAny_newObj_type ?_ (by size_fits)))) (by size_fits))
 simp only [raiseNew]
 refine wpAny_bind (wpAny_handled ?_)
 rw [show A.in1.handled=none from hh]
 refine wpAny_bind (wpAny_pure (wpAny_throw ?_))
 refine wpAny_bind (wpAny_isInstance (T:="StopIteration") (b:=true) ⟨_,Heap.get?_push_size _ rfl,rfl⟩ isSubtype_stop (wpAny_pure ?_))
 exact (h _ (((Heap.SameBut.update ..).extBut.push _).push _))
end
def ItmX (d:Addr) (o:Obj) (kvs:List (V × V)):It :=
 ⟨fun i H=>H d=some (XO d o)/\i<kvs.length,
  fun i H x H'=>∃ p k v,H p=none/\x=.ref p/\H'=upd H p (.tup [k,v])/\kvs[i]?=some (k,v),
  fun i H=>H d=some (XO d o)/\kvs.length<=i⟩
theorem Aq4 {P:Program}{w:World}{K:W.Frag}{tes:List Expr}{x1:Nat}{tpos:Pos} (d it:Addr) (o:Obj) {es:Array DictEntry}{ep:Nat}{kvs:List (V × V)} (hd:o.data=.dict es ep) (hE:Ent kvs es.toList) :
 Turn P w K (.Tuple tes x1 tpos) (ItmX d o kvs) [it] it (fun i h=>∃ ok ov,IsItemIter h it d i es.size ep ok ov) where
 mem:=by simp
 obj:=fun i h st b hb=>by
  obtain⟨ok,ov,h1⟩:=st
  have z:b=it:=by simpa using hb
  subst z
  exact ⟨_,h1,fun v q=>by cases (show Data.fields _=Data.cell v from q)⟩
 keep:=fun i h h' st k=>by
  obtain⟨ok,ov,h1⟩:=st
  exact ⟨ok,ov,k it (by simp) _ h1⟩
 item:=by
  intro X hP hw hK hc i Aa s σ H E I hf st hg
  subst hP hw hK
  obtain⟨ok,ov,hit⟩:=st
  obtain⟨hz,hi⟩:=hg
  have ho:=K1 I hz
  have hl:kvs.length=es.size:=by simpa using Paired.length hE
  have hie:i<es.size:=by omega
  obtain⟨e,he1,rk,rv,_⟩:=hE.get (i:=i) (p:=kvs[i]) (List.getElem?_eq_getElem hi)
  have he2:es[i]=e:=by
   rw [List.getElem?_eq_getElem (by simpa using hie)] at he1
   simpa using he1
  subst he2
  have lti:it<s.heap.objs.size:=Heap.lt_size hit
  have hfresh:H s.heap.objs.size=none:=I.hok.fresh (Nat.le_refl _)
  refine Ar1 hit ho hd hie fun h' hout htup hsz' hk=>?_
  refine⟨_,rfl,wpAny_letOwnedTupleGo_items hout fun h3 hen hsb=>?_⟩
  replace hsb:Heap.SameBut it h' h3:=hsb
  have kk:∀ b ob,b ∉ [it]->s.heap.get? b=some ob->h3.get? b=some ob:=fun b ob n z=>by
   have n1:b≠it:=by simpa using n
   exact (hsb.2 b n1).trans (hk b ob n1 z)
  have ht3:h3.get? s.heap.objs.size=some { cls:=.type "tuple",data:=.seq #[es[i].key,es[i].val] }:=(hsb.2 _ (Nat.ne_of_gt lti)).trans htup
  have ntr:∀ c ob,H c=some ob->c ∉ [it]:=fun c ob e hm=>by rw [(hf c hm).1] at e;cases e
  have nsz:∀ b ob,H b=some ob->b≠s.heap.objs.size:=fun b ob z=>Al z hfresh
  refine⟨.ref s.heap.objs.size,upd H s.heap.objs.size (.tup [kvs[i].1,kvs[i].2]),?_,rfl,⟨s.heap.objs.size,_,_,hfresh,rfl,rfl,List.getElem?_eq_getElem hi⟩,⟨_,_,hen⟩,fun b hb=>?_⟩
  . refine Inv.step (s:=s) (h':=h3) (t':=s.toks) (H':=upd H s.heap.objs.size (.tup [kvs[i].1,kvs[i].2])) I (g':=s.gens) (d':=s.drawn) (ch:=[it]) (fun b hb=>?_) (fun b ob _ _ hb z _=>kk b ob hb z) (fun b ob _ _ hb z _=>⟨ob.slots,kk b ob hb z⟩) (fun b ob hb z n=>?_) (fun b ob hb z=>⟨ob,kk b ob hb z⟩)
     (fun b ys z=>by rw [Ae (nsz b _ z)];exact z) (fun b ob w' z=>by rw [Ae (nsz b _ z)];exact z) (fun b ps z=>⟨#[],by rw [Ae (nsz b _ z),z];simp⟩) (fun m hm=>?_) (fun b w' z=>?_) I.bare
    . have f:=hf b hb
      exact ⟨f.2.2.2.1,f.2.1,f.2.2.2.2.1,f.2.2.2.2.2⟩
    . rw [Ae (Nat.ne_of_lt (Heap.lt_size z))]
      exact n
    . obtain⟨ob,es',ep',hob,r⟩:=hm
      exact ⟨ob,es',ep',kk _ ob (fun q=>(hf _ q).2.1 rfl) hob,r⟩
    . by_cases hb:b=s.heap.objs.size
      . subst hb
        rw [Ac] at z
        cases z
        exact ⟨(by show (2:Nat)<=sizeLine;decide),[es[i].key,es[i].val],.cons rk (.cons rv .nil),⟨_,ht3,rfl,rfl,_,rfl⟩⟩
      . rw [Ae hb] at z
        refine (I.hok b w' z).stay (fun c y hc' q=>?_) (fun c q=>by rw [Ae (nsz c _ q)];exact q) fun c ys q=>by rw [Ae (nsz c _ q)];exact q
        rcases hc' with rfl | hc'
        . exact kk _ _ (ntr _ _ z) q
        . exact kk _ _ (ntr _ _ hc') q
  . have z:b=it:=by simpa using hb
    subst z
    rw [Ae (Nat.ne_of_lt lti)]
    exact (hf b hb).1
 done:=by
  intro X hP hw hK hc i Aa s σ H E I hf st hg
  subst hP hw hK
  obtain⟨ok,ov,hit⟩:=st
  obtain⟨hz,hx⟩:=hg
  have ho:=K1 I hz
  have hl:kvs.length=es.size:=by simpa using Paired.length hE
  exact Ay8 (I.ok.hd hc) hit ho hd (by omega) fun h' eb=>⟨rfl,I.turnedN (t':=s.toks) (fp:=[it]) (fun b ob hb z=>eb b ob (by simpa using hb) z) hf⟩
 self:=fun _ _ _ _ _ st h=>by
  obtain⟨ok,ov,hit⟩:=st
  exact Ig hit h
def A27 (td:TE):TI:=fun σ H R=>td σ H fun x H1=>(∃ d o kvs,x=.ref d/\H1 d=some (.frz o (.dK kvs))/\R (Itm d o) H1) ∨
 ∃ d o kvs,x=.ref d/\(d==sysModules)=false/\H1 d=some (XO d o)/\OddObj o kvs/\R (ItmX d o kvs) H1
theorem Ah3 {X:Cx}{tes:List Expr}{x1:Nat}{tpos apos cpos:Pos}{e:Expr}{td:TE} (he:PE X e td)
 (hbase:attributeBase e "items" X.env (eval e X.env)=eval e X.env:=by rfl) (hline:(apos.endLine==cpos.line)=true:=by rfl):PI X (.Tuple tes x1 tpos) (.Call (.Attribute e "items" apos) [] [] cpos) (A27 td):=by
 intro Aa s σ H R I h
 refine wpAny_Call_method0_late hbase hline (thn (he Aa s σ H _ I h) fun v s1 ⟨x,H1,I1,r1,hq⟩=>?_)
 rcases hq with ⟨d,o,kvs,ex,hz,q⟩|⟨d,o,kvs,ex,hsys,hz,hO,q⟩
 . subst ex
   obtain rfl:v=Value.ref d:=r1
   obtain⟨ho,hsys,hl,vs,es,ep,rel,hd,hsz,exd,hm⟩:=Ix I1 hz
   refine⟨"dict","dict.items",PySem.F.plainAttrs_dict,PySem.F.slot_dict_items,PySem.F.type_dict_items,⟨o,ho,exd.1⟩,fun b e=>by cases e;exact ⟨o,ho,exd.2.1⟩,Calls.callWith_builtin rfl (PySem.evalArgs_none ?_)⟩
   refine Wd hsys ho exd hd ?_
   have I2:Inv X Aa σ H1 { s1 with heap:=s1.heap.push { cls:=.type "dict_items",data:=.fields #[.ref d] } }:=I1.kept (t':=s1.toks) fun b ob z=>Heap.get?_push_of_some _ z
   refine l0 (s:={ s1 with heap:=s1.heap.push { cls:=.type "dict_items",data:=.fields #[.ref d] } }) (v:=s1.heap.objs.size) (d:=d) ⟨_,Heap.get?_push_size _ rfl,rfl,rfl⟩ (Heap.get?_push_of_some _ ho) hd ?_
   refine⟨_,[_],_,Itm d o,H1,rfl,I2.kept (t':=s1.toks) fun b ob z=>Heap.get?_push_of_some _ z,Sm d _ o hd,⟨.none,.none,Heap.get?_push_size _ rfl⟩,fun b hb=>?_,q⟩
   have z:b=(s1.heap.push { cls:=.type "dict_items",data:=.fields #[.ref d] }).objs.size:=by simpa using hb
   subst z
   exact I2.fpOk (Nat.le_refl _) (I2.hok.fresh (Nat.le_refl _))
 . subst ex
   obtain rfl:v=Value.ref d:=r1
   obtain⟨exd,es,ep,hd,hE⟩:=hO
   have ho:=K1 I1 hz
   refine⟨"dict","dict.items",PySem.F.plainAttrs_dict,PySem.F.slot_dict_items,PySem.F.type_dict_items,⟨o,ho,exd.1⟩,fun b e=>by cases e;exact ⟨o,ho,exd.2.1⟩,Calls.callWith_builtin rfl (PySem.evalArgs_none ?_)⟩
   refine Wd hsys ho exd hd ?_
   have I2:Inv X Aa σ H1 { s1 with heap:=s1.heap.push { cls:=.type "dict_items",data:=.fields #[.ref d] } }:=I1.kept (t':=s1.toks) fun b ob z=>Heap.get?_push_of_some _ z
   refine l0 (s:={ s1 with heap:=s1.heap.push { cls:=.type "dict_items",data:=.fields #[.ref d] } }) (v:=s1.heap.objs.size) (d:=d) ⟨_,Heap.get?_push_size _ rfl,rfl,rfl⟩ (Heap.get?_push_of_some _ ho) hd ?_
   refine⟨_,[_],_,ItmX d o kvs,H1,rfl,I2.kept (t':=s1.toks) fun b ob z=>Heap.get?_push_of_some _ z,Aq4 d _ o hd hE,⟨.none,.none,Heap.get?_push_size _ rfl⟩,fun b hb=>?_,q⟩
   have z:b=(s1.heap.push { cls:=.type "dict_items",data:=.fields #[.ref d] }).objs.size:=by simpa using hb
   subst z
   exact I2.fpOk (Nat.le_refl _) (I2.hok.fresh (Nat.le_refl _))
section
variable {X:Cx}{o i e value:Expr}{pos pos' tpos:Pos}{td ty tv:TE}
theorem Xv {K:W.Frag} (hK:X.K=K:=by rfl):Du X (.builtin "isinstance") (fun xs H Q=>∃ x n,xs=[x,.ty n]/\(n="int"\/n="bool"\/n="str"\/n="tuple"\/n="list"\/n="dict") ∧
 ((∃ d,RepA K H x d/\Q (.bl (isA n d)) H)\/(∃ a kvs,x=.ref a/\Vw H a kvs/\Q (.bl (n=="dict")) H)\/∃ a us,x=.ref a/\H a=some (.lst us)/\Q (.bl (n=="list")) H)):=by
 intro Aa s σ H xs us Q I r h
 obtain⟨x,n,e,hn,h⟩:=h
 rcases h with ⟨d,hx,q⟩|⟨a,kvs,rfl,⟨hs,ob,ha,hO⟩,q⟩|⟨a,vs,rfl,ha,q⟩
 . exact Qv hK Aa s σ H xs us Q I r ⟨x,n,d,e,hn,hx,q⟩
 . subst e
   obtain⟨u,v,rfl,rx,rt⟩:=Vz r
   cases rt
   cases rx
   have ho:=K1 I ha
   have ex:=hO.1
   rcases hn with rfl | rfl | rfl | rfl | rfl | rfl
   . exact PySem.IsiPair.dict_int ho ex.1 ⟨.bl false,H,I.tok _,rfl,q⟩
   . exact PySem.IsiPair.dict_bool ho ex.1 ⟨.bl false,H,I.tok _,rfl,q⟩
   . exact PySem.IsiPair.dict_str ho ex.1 ⟨.bl false,H,I.tok _,rfl,q⟩
   . exact PySem.IsiPair.dict_tuple ho ex.1 ⟨.bl false,H,I.tok _,rfl,q⟩
   . exact PySem.IsiPair.dict_list ho ex.1 ⟨.bl false,H,I.tok _,rfl,q⟩
   . exact PySem.IsiPair.dict_dict ho ex.1 ⟨.bl true,H,I,rfl,q⟩
 . subst e
   obtain⟨u,v,rfl,rx,rt⟩:=Vz r
   cases rt
   cases rx
   obtain⟨_,its,m,_,ho⟩:=(show ObjOk X.prog X.w H s.heap a (.lst vs) from I.hok a _ ha)
   rcases hn with rfl | rfl | rfl | rfl | rfl | rfl
   . exact PySem.IsiPair.list_int ho rfl ⟨.bl false,H,I.tok _,rfl,q⟩
   . exact PySem.IsiPair.list_bool ho rfl ⟨.bl false,H,I.tok _,rfl,q⟩
   . exact PySem.IsiPair.list_str ho rfl ⟨.bl false,H,I.tok _,rfl,q⟩
   . exact PySem.IsiPair.list_tuple ho rfl ⟨.bl false,H,I.tok _,rfl,q⟩
   . exact PySem.IsiPair.list_list ho rfl ⟨.bl true,H,I,rfl,q⟩
   . exact PySem.IsiPair.list_dict ho rfl ⟨.bl false,H,I.tok _,rfl,q⟩
theorem i3 {g:TG}{tc:TT}{te:TE}{D:Addr}{Q:Hp->Prop}{τ:St}{H:Hp}{d:Addr}{o:Obj}{kvs:List (V × V)} (Pv:Nat->List V->St->Hp->Prop) (h0:Pv 0 [] τ H) (hl:∀ i zs τ H,i<=kvs.length->Pv i zs τ H->H d=some (XO d o))
 (hs:∀ i k v zs τ H p,kvs[i]?=some (k,v)->Pv i zs τ H->H p=none->g (.ref p) τ (upd H p (.tup [k,v])) fun τ2 H2=>tc τ2 H2 fun b H3=>if b=true then te τ2 H3 fun y H4=>H4 D=some (.lst zs)/\zs.length<sizeLine/\Pv (i+1) (zs++[y]) τ2 (upd H4 D (.lst (zs++[y]))) else Pv (i+1) zs τ2 H3)
 (hd:∀ zs τ H,Pv kvs.length zs τ H->Q H):RunC (ItmX d o kvs) g tc te D Q τ H:=by
 refine⟨fun i m zs τ H=>m=kvs.length-i/\i<=kvs.length/\Pv i zs τ H,⟨kvs.length,by simp,Nat.zero_le _,h0⟩,?_⟩
 rintro i m zs τ H ⟨rfl,hi,pp⟩
 have q:=hl i zs τ H hi pp
 by_cases hlt:i<kvs.length
 . refine .inr ⟨⟨q,hlt⟩,Pv (i+1),fun ys' τ' H' p'=>⟨kvs.length-(i+1),by omega,rfl,hlt,p'⟩,fun x H' y=>?_⟩
   obtain⟨p,k,v,hp,rfl,rfl,y⟩:=y
   exact hs i k v zs τ _ p y pp hp
 . have e:i=kvs.length:=by omega
   subst e
   exact .inl ⟨⟨q,Nat.le_refl _⟩,hd zs τ H pp⟩
end
end L2
namespace L2
open PySem PySem.Spec PyProof.Rows
end L2
namespace Hb
open PySem L2
def Sca:V->Prop
 | .non=>True | .bl _=>True | .int _=>True | .str _=>True | _=>False
def vD:V->L2.D
 | .non=>.non | .bl b=>.bl b | .int i=>.int i | .str x=>.str x | .ref _=>.tup [.int 0] | _=>.non
theorem Sca.rep {K:W.Frag}{H:Hp}{v:V} (h:Sca v):Rep K H v (vD v):=by
 cases v<;>first | rfl | exact h.elim
def KeyR (H:Hp) (v:V):Prop:=Sca v\/∃ t,v=.ref t/\H t=some (.tup [.int 0])
theorem KeyR.rep {K:W.Frag}{H:Hp}{v:V} (h:KeyR H v):Rep K H v (vD v):=by
 rcases h with h|⟨t,rfl,ht⟩
 . exact h.rep
 . exact ⟨t,[.int 0],rfl,.of ht,.int 0,[],rfl,rfl,rfl⟩
theorem KeyR.same {H H':Hp}{v:V} (s:Same H H') (h:KeyR H v):KeyR H' v:=by
 rcases h with h|⟨t,rfl,ht⟩
 . exact .inl h
 . exact .inr ⟨t,rfl,s _ _ ht⟩
def nzD:L2.D->Bool
 | .int n=>decide (¬n=0)
 | _=>false
def E2 (xs:List (List Int)) (k:Int) (d e:L2.D):Bool:=Bc xs d k&&nzD e
theorem Gf {xs:List (List Int)}{k:Int}{d e:L2.D} (h:Bc xs d k=false):E2 xs k d e=false:=by unfold E2;rw [h];rfl
theorem Lj {xs:List (List Int)}{k:Int}{d e:L2.D} (h:nzD e=false):E2 xs k d e=false:=by unfold E2;rw [h];simp
theorem Vx {e:L2.D} (h:Dz e=true):∃ n,e=.int n:=by
 cases e with
 | int n=>exact ⟨n,rfl⟩
 | _=>exact nomatch (show false=true from h)
theorem m7 {e:L2.D} (h:Dz e=false):nzD e=false:=by
 cases e with
 | int n=>exact nomatch (show true=false from h)
 | _=>rfl
theorem k9 {x:V} (h:Sca x):isA "dict" (.d (vD x))=false:=by
 cases x<;>first | rfl | exact h.elim
theorem Ag0 (k:Key):Sca (kV k):=by cases k<;>exact True.intro
theorem Av3 (x:List Int) (p:Int):(nums x).any (fun e=>eqD e (.int p))=decide (p∈x):=by
 unfold nums
 rw [List.any_map]
 by_cases h:p∈x
 . rw [decide_eq_true h]
   exact List.any_eq_true.mpr ⟨p,h,by simp [eqD]⟩
 . rw [decide_eq_false h]
   rw [List.any_eq_false]
   intro y hy
   have:y≠p:=fun e=>h (e▸hy)
   simpa [eqD] using this
inductive TT where
 | data (d:L2.D) | lst | dk (kvs:List (Key × V)) | odd (kvs:List (V × V))
def Hi (H:Hp) (x:V):TT->Prop
 | .data d=>Sca x/\d=vD x
 | .lst=>∃ a us,x=.ref a/\H a=some (.lst us)
 | .dk kvs=>∃ a,x=.ref a/\H a=some (.dK kvs)/\kvs.length<=1000/\∀ p∈kvs,Sca p.2
 | .odd kvs=>∃ a,x=.ref a/\Vw H a kvs/\kvs.length<=1000/\∀ p∈kvs,KeyR H p.1/\Sca p.2
theorem Vw.same {H H':Hp}{a:Addr}{kvs:List (V × V)} (s:Same H H') (h:Vw H a kvs):Vw H' a kvs:=by
 obtain⟨h1,o,h2,h3⟩:=h
 exact ⟨h1,o,s _ _ h2,h3⟩
theorem Hi.same {H H':Hp}{x:V}{t:TT} (s:Same H H') (h:Hi H x t):Hi H' x t:=by
 cases t with
 | data d=>exact h
 | lst=>obtain⟨a,us,e,h⟩:=h;exact ⟨a,us,e,s _ _ h⟩
 | dk kvs=>obtain⟨a,e,h,r⟩:=h;exact ⟨a,e,s _ _ h,r⟩
 | odd kvs=>obtain⟨a,e,h,l,r⟩:=h;exact ⟨a,e,Vw.same s h,l,fun p hp=>⟨(r p hp).1.same s,(r p hp).2⟩⟩
def Gj (xs:List (List Int)) (k:Int):TT->Bool
 | .data _=>false
 | .lst=>false
 | .dk kvs=>kvs.all fun p=>E2 xs k (vD (kV p.1)) (vD p.2)
 | .odd kvs=>kvs.all fun p=>E2 xs k (vD p.1) (vD p.2)
theorem Xn (xs:List (List Int)) (k:Int) (ms:Ms):Gj xs k (.dk (cK ms))=D6 xs k ms:=by
 show ((cK ms).all fun p=>E2 xs k (vD (kV p.1)) (vD p.2))=D6 xs k ms
 unfold D6 cK
 rw [List.all_map]
 rfl
theorem j7 {H:Hp}{b:Addr}{ms:Ms} (h:H b=some (.dK (cK ms))) (hl:ms.length<=1000):Hi H (.ref b) (.dk (cK ms)):=by
 refine⟨b,rfl,h,by rw [Dg];exact hl,fun p hp=>?_⟩
 unfold cK at hp
 obtain⟨q,_,rfl⟩:=List.mem_map.mp hp
 exact True.intro
section
variable (K:W.Frag)
def Kx:Sp:=fun vs H Q _=>∃ (a:Addr) (xs:List (List Int)) (k:Int) (x y:V) (d e:L2.D),vs=[.ref a,.int k,x,y]/\LT K H (.ref a) xs/\Rep K H x d/\Rep K H y e/\Q (.bl (E2 xs k d e)) H
def Fc:Sp:=fun vs H Q _=>∃ (a:Addr) (xs:List (List Int)) (k:Int) (x:V) (t:TT),vs=[.ref a,.int k,x]/\LT K H (.ref a) xs/\Hi H x t/\∀ H',Same H H'->Q (.bl (Gj xs k t)) H'
def Fj:Sp:=fun vs H Q _=>∃ (a:Addr) (x:V) (xs:List (List Int)) (n:Nat) (t:TT),vs=[.ref a,x,.int (n:Int)]/\LT K H (.ref a) xs/\Hi H x t/\n<=100 ∧
 ∀ H',Same H H'->Q (.bl ((List.range n).any fun (k:Nat)=>Gj xs (k:Int) t)) H'
end
end Hb
namespace L2
open PySem PySem.Spec PyProof.Rows
def Itv (d:Addr) (o:Obj):It :=
 ⟨fun i H=>∃ kvs k v,H d=some (.frz o (.dK kvs))/\kvs[i]?=some (k,v),
  fun i H x H'=>H'=H/\∃ k v,x=v/\∀ kvs,H d=some (.frz o (.dK kvs))->kvs[i]?=some (k,v),
  fun i H=>∃ kvs,H d=some (.frz o (.dK kvs))/\kvs.length<=i⟩
theorem Rj {prog:Program}{w:World}{A:Around}{E:Value->Shared->Prop}{s:Shared}{it d:Addr}{i n ep:Nat}{Q:Value->Shared->Prop} (hit:s.heap.IsValIter it d i n ep) (h:Q (.ref it) s):wpAny (model prog w) A (pyIter (.ref it)) Q E s:=by
 refine wpAny_pyIter_slot hit.typeIs PySem.F.slot_dict_valueiterator_iter (wpAny_call_entry PySem.F.slot_dict_valueiterator_iter hit.typeIs (entryFor_alias (id':="dict_keyiterator.__iter__") (by kernel_rfl) rfl (by decide +kernel) (by kernel_rfl):entryFor table "dict_valueiterator.__iter__"=some Builtin.«dict_keyiterator.__iter__») ?_ (PySem.F.args_dict_valueiterator_iter_1 _))
 show wpAny _ _ (ret (.ref it)) _ _ s
 exact wpAny_pure ⟨_,rfl,"dict_valueiterator",_,hit.typeIs,PySem.F.slot_dict_valueiterator_next.lookup,h⟩
theorem Ae9 {P:Program}{w:World}{K:W.Frag}{tg:Expr} (d it:Addr) (o:Obj) {es:Array DictEntry}{ep:Nat} (hd:o.data=.dict es ep) :
 Turn P w K tg (Itv d o) [it] it (fun i h=>h.IsValIter it d i es.size ep) where
 mem:=by simp
 obj:=fun i h st b hb=>by
  obtain⟨oi,h1,c1,d1⟩:=st
  have z:b=it:=by simpa using hb
  subst z
  exact ⟨oi,h1,fun v q=>by rw [d1] at q;cases q⟩
 keep:=fun i h h' st k=>by
  obtain⟨oi,h1,c1,d1⟩:=st
  exact ⟨oi,k it (by simp) oi h1,c1,d1⟩
 item:=by
  intro X hP hw hK hc i Aa s σ H E I hf st hg
  subst hP hw hK
  obtain⟨kvs,k,v,hz,hx⟩:=hg
  obtain⟨ho,hsys,hl,vs,es',ep',rel,hd',hsz,ex,hm⟩:=Ix I hz
  rw [hd] at hd'
  cases hd'
  obtain⟨u,hu,ru⟩:=rel.getV hx
  have hn:es.size=vs.length:=by rw [hsz,rel.length]
  rw [hn] at st
  refine wpAny_pyNext_values_item st hm hu fun h' hit' hs'=>?_
  refine⟨_,rfl,?_⟩
  obtain⟨oi,h1,c1,d1⟩:=id hit'
  refine Ac1 h1 c1 d1 (by decide) ⟨v,H,?_,ru,⟨rfl,k,v,rfl,fun kvs' q=>by rw [hz] at q;cases q;exact hx⟩,by rw [hn];exact hit',fun b hb=>(hf b hb).1⟩
  exact I.turnedN (t':=s.toks) (fp:=[it]) (fun b ob hb z=>(hs'.2 b (by simpa using hb)).trans z) hf
 done:=by
  intro X hP hw hK hc i Aa s σ H E I hf st hg
  subst hP hw hK
  obtain⟨kvs,hz,hx⟩:=hg
  obtain⟨ho,hsys,hl,vs,es',ep',rel,hd',hsz,ex,hm⟩:=Ix I hz
  rw [hd] at hd'
  cases hd'
  have hn:es.size=vs.length:=by rw [hsz,rel.length]
  have hl2:=rel.length
  rw [hn] at st
  exact wpAny_pyNext_values_end (I.ok.hd hc) st hm (by simp;omega) fun h' eb=>⟨rfl,I.turnedN (t':=s.toks) (fp:=[it]) (fun b ob hb z=>eb b ob (by simpa using hb) z) hf⟩
 self:=fun _ _ _ _ _ st h=>Rj st h
def Be8 (td:TE):TI:=fun σ H R=>td σ H fun x H1=>∃ d o kvs,x=.ref d/\H1 d=some (.frz o (.dK kvs))/\R (Itv d o) H1
theorem Ah1 {X:Cx}{tg e:Expr}{apos cpos:Pos}{td:TE} (he:PE X e td)
 (hbase:attributeBase e "values" X.env (eval e X.env)=eval e X.env:=by rfl) (hline:(apos.endLine==cpos.line)=true:=by rfl):PI X tg (.Call (.Attribute e "values" apos) [] [] cpos) (Be8 td):=by
 intro Aa s σ H R I h
 refine wpAny_Call_method0_late hbase hline (thn (he Aa s σ H _ I h) fun v s1 ⟨x,H1,I1,r1,d,o,kvs,ex,hz,q⟩=>?_)
 subst ex
 obtain rfl:v=Value.ref d:=r1
 obtain⟨ho,hsys,hl,vs,es,ep,rel,hd,hsz,exd,hm⟩:=Ix I1 hz
 refine⟨"dict","dict.values",PySem.F.plainAttrs_dict,PySem.F.slot_dict_values,PySem.F.type_dict_values,⟨o,ho,exd.1⟩,fun b e=>by cases e;exact ⟨o,ho,exd.2.1⟩,Calls.callWith_builtin rfl (PySem.evalArgs_none ?_)⟩
 refine call_meetsIn PySem.F.slot_dict_values hm.dictOf.typeIs PySem.F.entry_dict_values (PySem.F.args_dict_values_1 _) (meets_dict_values (mixKind X.prog X.w) d hsys) ⟨⟨vs,hm.dictOf⟩,?_⟩
 have I2:Inv X Aa σ H1 { s1 with heap:=s1.heap.push { cls:=.type "dict_values",data:=.fields #[.ref d] } }:=I1.kept (t':=s1.toks) fun b ob z=>Heap.get?_push_of_some _ z
 have hm2:=hm.push { cls:=.type "dict_values",data:=.fields #[.ref d] }
 refine wpAny_pyIter_values (s:={ s1 with heap:=s1.heap.push { cls:=.type "dict_values",data:=.fields #[.ref d] } }) (v:=s1.heap.objs.size) (d:=d) ⟨_,Heap.get?_push_size _ rfl,rfl,rfl⟩ hm2 ?_
 refine⟨_,[_],_,Itv d o,H1,rfl,I2.kept (t':=s1.toks) fun b ob z=>Heap.get?_push_of_some _ z,Ae9 d _ o hd,?_,fun b hb=>?_,q⟩
 . rw [hsz,rel.length]
   exact ⟨_,Heap.get?_push_size _ rfl,rfl,rfl⟩
 . have z:b=(s1.heap.push { cls:=.type "dict_values",data:=.fields #[.ref d] }).objs.size:=by simpa using hb
   subst z
   exact I2.fpOk (Nat.le_refl _) (I2.hok.fresh (Nat.le_refl _))
theorem An7 {g:TG}{te:TE}{D:Addr}{Q:Hp->Prop}{τ:St}{H:Hp}{d:Addr}{o:Obj}{kvs:List (Key × V)} (Pv:Nat->List V->St->Hp->Prop) (h0:Pv 0 [] τ H) (hl:∀ i zs τ H,i<=kvs.length->Pv i zs τ H->H d=some (.frz o (.dK kvs)))
 (hs:∀ i k v zs τ H,kvs[i]?=some (k,v)->Pv i zs τ H->g v τ H fun τ2 H2=>te τ2 H2 fun y H4=>H4 D=some (.lst zs)/\zs.length<sizeLine/\Pv (i+1) (zs++[y]) τ2 (upd H4 D (.lst (zs++[y]))))
 (hd:∀ zs τ H,Pv kvs.length zs τ H->Q H):RunC (Itv d o) g tYes te D Q τ H:=by
 refine⟨fun i m zs τ H=>m=kvs.length-i/\i<=kvs.length/\Pv i zs τ H,⟨kvs.length,by simp,Nat.zero_le _,h0⟩,?_⟩
 rintro i m zs τ H ⟨rfl,hi,pp⟩
 have q:=hl i zs τ H hi pp
 by_cases hlt:i<kvs.length
 . refine .inr ⟨⟨kvs,_,_,q,List.getElem?_eq_getElem hlt⟩,Pv (i+1),fun ys' τ' H' p'=>⟨kvs.length-(i+1),by omega,rfl,hlt,p'⟩,fun x H' y=>?_⟩
   obtain⟨rfl,k,v,rfl,y⟩:=y
   exact hs i k x zs τ H' (y kvs q) pp
 . have e:i=kvs.length:=by omega
   subst e
   exact .inl ⟨⟨kvs,q,Nat.le_refl _⟩,hd zs τ H pp⟩
section
variable {prog:Program}{w:World}{A:Around}{E:Value->Shared->Prop}{s:Shared}
theorem Wc {d:Addr}{o:Obj}{es:Array DictEntry}{ep:Nat}{Q:Value->Shared->Prop} (hs:(d==sysModules)=false) (ho:s.heap.get? d=some o) (hx:o.ExactDict) (hd:o.data=.dict es ep)
 (h:Q (.ref s.heap.objs.size) { s with heap:=s.heap.push { cls:=.type "dict_keyiterator",data:=.fields #[.ref d,.int 0 0,.int es.size 0,.int ep 0] } }):wpAny (model prog w) A (pyIter (.ref d)) Q E s:=by
 have hT:s.TypeIs (.ref d) "dict":=⟨o,ho,hx.1⟩
 refine wpAny_pyIter_slot hT F.slot_dict_iter (wpAny_call_entry F.slot_dict_iter hT F.entry_dict_iter ?_ (F.args_dict_iter_1 _))
 unfold Builtin.«dict.__iter__»
 refine wpAny_bind ?_
 unfold Builtin.Dict.dictSlotNone
 refine wpAny_bind (wpAny_notOrdered_dict hT (show wpAny _ _ (pure (Value.ref d)) _ _ s from wpAny_pure ?_))
 show wpAny _ _ (Builtin.Dict.showsAll d>>=_) _ _ s
 unfold Builtin.Dict.showsAll
 rw [if_neg (by rw [hs];decide)]
 refine wpAny_bind (wpAny_pure (wpAny_bind (wpAny_dictEntries ho hd (wpAny_bind (wpAny_dictEpoch ho hd ?_)))))
 refine wpAny_bind (wpAny_newObj_type (wpAny_pure ⟨_,rfl,"dict_keyiterator",_,⟨_,Heap.get?_push_size _ rfl,rfl⟩,F.slot_dict_keyiterator_next.lookup,?_⟩))
 simpa [rawInt] using h
theorem Ag3 {it d:Addr}{i ep:Nat}{o:Obj}{es:Array DictEntry}{Q:Option Value->Shared->Prop} (hit:s.heap.IsKeyIter it d i es.size ep) (ho:s.heap.get? d=some o) (hd:o.data=.dict es ep) (hi:i<es.size)
 (h:∀ h',h'.IsKeyIter it d (i+1) es.size ep->Heap.SameBut it s.heap h'->Q (some es[i].key) { s with heap:=h' }):wpAny (model prog w) A (pyNext (.ref it)) Q E s:=by
 obtain⟨oi,hoi,hc,hdi⟩:=id hit
 unfold pyNext
 refine wpAny_bind (wpAny_attempt (wpAny_callSpecial?_slot (name:=Str.ofString "__next__") hit.typeIs F.slot_dict_keyiterator_next (wpAny_call_entry F.slot_dict_keyiterator_next hit.typeIs F.entry_dict_keyiterator_next ?_ (F.args_dict_keyiterator_next_1 _))))
 refine wpAny_bind (wpAny_pure (wpAny_bind (wpAny_bind ?_)))
 first | refine wpAny_bind (wpAny_typeNameOfWhole_keyiter hit.typeIs (wpAny_pure (wpAny_bind (wpAny_fieldsOf hoi hdi ?_)))) | refine wpAny_bind (wpAny_typeNameOf_keyiter hit.typeIs (wpAny_pure (wpAny_bind (wpAny_fieldsOf hoi hdi ?_))))
 simp only [show Builtin.Dict_items.ownsTuple "dict_keyiterator"=false by decide,Bool.false_eq_true,if_false]
 show wpAny _ _ (if (Value.ref d==Value.none)=true then _ else _) _ _ s
 have nz:¬(Value.ref d==Value.none)=true:=Bool.false_ne_true
 rw [if_neg nz]
 refine wpAny_bind (wpAny_pure (wpAny_bind (wpAny_dictEntries ho hd ?_)))
 rw [if_neg (by simp)]
 refine wpAny_bind (wpAny_pure (wpAny_bind (wpAny_dictEpoch ho hd ?_)))
 rw [if_neg (by simp)]
 refine wpAny_pure ?_
 simp only [show ¬((i:Int)<0) from by omega,if_false,Int.toNat_natCast,Array.getElem?_eq_getElem hi]
 refine wpAny_bind ?_
 first | refine wpAny_bind (wpAny_typeNameOfWhole_keyiter hit.typeIs (wpAny_pure (wpAny_bind (wpAny_isOneOf_keyiter hit.typeIs ?_)))) | refine wpAny_bind (wpAny_typeNameOf_keyiter hit.typeIs (wpAny_pure (wpAny_bind (wpAny_isOneOf_keyiter hit.typeIs ?_))))
 show wpAny _ _ (setField (.ref it) 1 (rawInt ((i:Int)+1))>>=_) _ _ s
 refine wpAny_bind (wpAny_setField hoi hdi (by simp) ?_)
 have hit':(s.heap.update it (Obj.mapFields (·.setIfInBounds 1 (rawInt ((i:Int)+1))))).IsKeyIter it d (i+1) es.size ep:=⟨_,Heap.get?_update_self _ hoi (Obj.isFreed_of_fields (Obj.data_mapFields hdi _)),(Obj.cls_mapFields ..).trans hc,by rw [Obj.data_mapFields hdi];simp [rawInt]⟩
 refine wpAny_bind (wpAny_holding (wpAny_bind (wpAny_isOneOf_keyiter (s:={ s with heap:=s.heap.update it (Obj.mapFields (·.setIfInBounds 1 (rawInt ((i:Int)+1)))) }) hit'.typeIs ?_)))
 show wpAny _ _ (pure es[i].key) _ _ _
 exact wpAny_pure (wpAny_pure ⟨_,rfl,wpAny_pure (h _ hit' (Heap.SameBut.update ..))⟩)
theorem Ar2 {it d:Addr}{i ep:Nat}{o:Obj}{es:Array DictEntry}{Q:Option Value->Shared->Prop} (hh:A.handled=none) (hit:s.heap.IsKeyIter it d i es.size ep) (ho:s.heap.get? d=some o) (hd:o.data=.dict es ep) (hi:es.size<=i)
 (h:∀ h',Heap.ExtBut it s.heap h'->Q none { s with heap:=h' }):wpAny (model prog w) A (pyNext (.ref it)) Q E s:=by
 obtain⟨oi,hoi,hc,hdi⟩:=id hit
 unfold pyNext
 refine wpAny_bind (wpAny_attempt (wpAny_callSpecial?_slot (name:=Str.ofString "__next__") hit.typeIs F.slot_dict_keyiterator_next (wpAny_call_entry F.slot_dict_keyiterator_next hit.typeIs F.entry_dict_keyiterator_next ?_ (F.args_dict_keyiterator_next_1 _))))
 refine wpAny_bind (wpAny_pure (wpAny_bind (wpAny_bind ?_)))
 first | refine wpAny_bind (wpAny_typeNameOfWhole_keyiter hit.typeIs (wpAny_pure (wpAny_bind (wpAny_fieldsOf hoi hdi ?_)))) | refine wpAny_bind (wpAny_typeNameOf_keyiter hit.typeIs (wpAny_pure (wpAny_bind (wpAny_fieldsOf hoi hdi ?_))))
 simp only [show Builtin.Dict_items.ownsTuple "dict_keyiterator"=false by decide,Bool.false_eq_true,if_false]
 show wpAny _ _ (if (Value.ref d==Value.none)=true then _ else _) _ _ s
 have nz:¬(Value.ref d==Value.none)=true:=Bool.false_ne_true
 rw [if_neg nz]
 refine wpAny_bind (wpAny_pure (wpAny_bind (wpAny_dictEntries ho hd ?_)))
 rw [if_neg (by simp)]
 refine wpAny_bind (wpAny_pure (wpAny_bind (wpAny_dictEpoch ho hd ?_)))
 rw [if_neg (by simp)]
 refine wpAny_pure ?_
 simp only [show ¬((i:Int)<0) from by omega,if_false,Int.toNat_natCast,Array.getElem?_eq_none hi]
 refine wpAny_bind ?_
 first | refine wpAny_bind (wpAny_typeNameOfWhole_keyiter hit.typeIs (wpAny_pure ?_)) | refine wpAny_bind (wpAny_typeNameOf_keyiter hit.typeIs (wpAny_pure ?_))
 show wpAny _ _ (setField (.ref it) 0 .none>>=_) _ _ s
 refine wpAny_bind (wpAny_setField hoi hdi (by simp) ?_)
 show wpAny _ _ (newExc (.type "StopIteration") []>>=_) _ _ _
 refine wpAny_bind ?_
 simp only [newExc,newTuple]
 refine wpAny_bind (wpAny_newObj_type (wpAny_bind (m:=firstArgMember _ _) (wpAny_of_eq (a:=Value.none) (by first | rfl | (simp only [firstArgMember];rfl)) (wpAny_newObj_type ?_ (by size_fits)))) (by size_fits))
 simp only [raiseNew]
 refine wpAny_bind (wpAny_handled ?_)
 rw [show A.in1.handled=none from hh]
 refine wpAny_bind (wpAny_pure (wpAny_throw ?_))
 refine wpAny_bind (wpAny_isInstance (T:="StopIteration") (b:=true) ⟨_,Heap.get?_push_size _ rfl,rfl⟩ isSubtype_stop (wpAny_pure ?_))
 exact (h _ (((Heap.SameBut.update ..).extBut.push _).push _))
end
def ItkX (d:Addr) (o:Obj) (kvs:List (V × V)):It :=
 ⟨fun i H=>H d=some (XO d o)/\i<kvs.length,fun i H x H'=>H'=H/\∃ k v,x=k/\kvs[i]?=some (k,v),fun i H=>H d=some (XO d o)/\kvs.length<=i⟩
theorem Af1 {P:Program}{w:World}{K:W.Frag}{tg:Expr} (d it:Addr) (o:Obj) {es:Array DictEntry}{ep:Nat}{kvs:List (V × V)} (hd:o.data=.dict es ep) (hE:Ent kvs es.toList) :
 Turn P w K tg (ItkX d o kvs) [it] it (fun i h=>h.IsKeyIter it d i es.size ep) where
 mem:=by simp
 obj:=fun i h st b hb=>by
  obtain⟨oi,h1,c1,d1⟩:=st
  have z:b=it:=by simpa using hb
  subst z
  exact ⟨oi,h1,fun v q=>by rw [d1] at q;cases q⟩
 keep:=fun i h h' st k=>st.at fun ob z=>k it (by simp) ob z
 item:=by
  intro X hP hw hK hc i Aa s σ H E I hf st hg
  subst hP hw hK
  obtain⟨hz,hi⟩:=hg
  have ho:=K1 I hz
  have hl:kvs.length=es.size:=by simpa using Paired.length hE
  have hie:i<es.size:=by omega
  obtain⟨e,he1,rk,rv,_⟩:=hE.get (i:=i) (p:=kvs[i]) (List.getElem?_eq_getElem hi)
  have he2:es[i]=e:=by
   rw [List.getElem?_eq_getElem (by simpa using hie)] at he1
   simpa using he1
  subst he2
  refine Ag3 st ho hd hie fun h' hit' hs'=>?_
  refine⟨_,rfl,?_⟩
  obtain⟨oi,h1,c1,d1⟩:=id hit'
  refine Ac1 h1 c1 d1 (by decide) ⟨kvs[i].1,H,?_,rk,⟨rfl,_,_,rfl,List.getElem?_eq_getElem hi⟩,hit',fun b hb=>(hf b hb).1⟩
  exact I.turnedN (t':=s.toks) (fp:=[it]) (fun b ob hb z=>(hs'.2 b (by simpa using hb)).trans z) hf
 done:=by
  intro X hP hw hK hc i Aa s σ H E I hf st hg
  subst hP hw hK
  obtain⟨hz,hx⟩:=hg
  have ho:=K1 I hz
  have hl:kvs.length=es.size:=by simpa using Paired.length hE
  exact Ar2 (I.ok.hd hc) st ho hd (by omega) fun h' eb=>⟨rfl,I.turnedN (t':=s.toks) (fp:=[it]) (fun b ob hb z=>eb b ob (by simpa using hb) z) hf⟩
 self:=fun _ _ _ _ _ st h=>wpAny_pyIter_keyiter st h
def Bb0 (td:TE):TI:=fun σ H R=>td σ H fun x H1=>(∃ d o kvs,x=.ref d/\H1 d=some (.frz o (.dK kvs))/\R (Itk d o) H1) ∨
 ∃ d o kvs,x=.ref d/\(d==sysModules)=false/\H1 d=some (XO d o)/\OddObj o kvs/\R (ItkX d o kvs) H1
theorem Ar6 {X:Cx}{tg e:Expr}{td:TE} (he:PE X e td):PI X tg e (Bb0 td):=by
 intro Aa s σ H R I h
 refine thn (he Aa s σ H _ I h) fun v s1 ⟨x,H1,I1,r1,hq⟩=>?_
 rcases hq with ⟨d,o,kvs,ex,hz,q⟩|⟨d,o,kvs,ex,hsys,hz,hO,q⟩
 . subst ex
   obtain rfl:v=Value.ref d:=r1
   obtain⟨ho,hsys,hl,vs,es,ep,rel,hd,hsz,exd,hm⟩:=Ix I1 hz
   refine Wc hsys ho exd hd ?_
   refine⟨_,[_],_,Itk d o,H1,rfl,I1.kept (t':=s1.toks) fun b ob z=>Heap.get?_push_of_some _ z,V1 d _ o hd,⟨_,Heap.get?_push_size _ rfl,rfl,rfl⟩,fun b hb=>?_,q⟩
   have z:b=s1.heap.objs.size:=by simpa using hb
   subst z
   exact I1.fpOk (Nat.le_refl _) (I1.hok.fresh (Nat.le_refl _))
 . subst ex
   obtain rfl:v=Value.ref d:=r1
   obtain⟨exd,es,ep,hd,hE⟩:=hO
   have ho:=K1 I1 hz
   refine Wc hsys ho exd hd ?_
   refine⟨_,[_],_,ItkX d o kvs,H1,rfl,I1.kept (t':=s1.toks) fun b ob z=>Heap.get?_push_of_some _ z,Af1 d _ o hd hE,⟨_,Heap.get?_push_size _ rfl,rfl,rfl⟩,fun b hb=>?_,q⟩
   have z:b=s1.heap.objs.size:=by simpa using hb
   subst z
   exact I1.fpOk (Nat.le_refl _) (I1.hok.fresh (Nat.le_refl _))
theorem Al7 {d:Addr}{o:Obj}{kvs:List (V × V)}{g:TG}{tb:TS}{D:Ends}{σ:St}{H:Hp} (Pv:Nat->St->Hp->Prop) (h0:Pv 0 σ H) (hl:∀ i σ H,i<=kvs.length->Pv i σ H->H d=some (XO d o))
 (hs:∀ i k v σ H,kvs[i]?=some (k,v)->Pv i σ H->g k σ H fun σ2 H2=>tb { D with nx:=Pv (i+1),ct:=Pv (i+1),bk:=D.nx } σ2 H2) (hd:∀ σ H,Pv kvs.length σ H->D.nx σ H) :
 ∃ W:Nat->Nat->St->Hp->Prop,(∃ m,W 0 m σ H)/\∀ i m σ H,W i m σ H →
   ((ItkX d o kvs).stop i H/\D.nx σ H)\/((ItkX d o kvs).go i H/\∃ N:St->Hp->Prop,(∀ σ' H',N σ' H'->∃ m',m'<m/\W (i+1) m' σ' H')/\∀ x H',(ItkX d o kvs).yld i H x H'->g x σ H' fun σ2 H2=>tb { D with nx:=N,ct:=N,bk:=D.nx } σ2 H2):=by
 refine⟨fun i m σ H=>m=kvs.length-i/\i<=kvs.length/\Pv i σ H,⟨kvs.length,by simp,Nat.zero_le _,h0⟩,?_⟩
 rintro i m σ H ⟨rfl,hi,p⟩
 have q:=hl i σ H hi p
 by_cases hlt:i<kvs.length
 . refine .inr ⟨⟨q,hlt⟩,Pv (i+1),fun σ' H' p'=>⟨kvs.length-(i+1),by omega,rfl,hlt,p'⟩,fun x H' y=>?_⟩
   obtain⟨rfl,k,v,rfl,y⟩:=y
   exact hs i x v σ H' y p
 . have e:i=kvs.length:=by omega
   subst e
   exact .inl ⟨⟨q,Nat.le_refl _⟩,hd σ H p⟩
section
variable {X:Cx}{K:W.Frag}
def Z1 (ns:List Int):Nat:=(firstMet (fun i=>ns.getD i 0) ns.length).length
def setB (ns:List Int):Int->Bool:=fun k=>(firstMet (fun i=>ns.getD i 0) ns.length).any (·==k)
theorem p7:∀{ns:List Int}{us:List Value},Vals (ns.map V.int) us->IntsAre us ns
 | [],_,r=>by cases r;exact .nil
 | n::ns,_,r=>by
   rw [List.map_cons] at r
   cases r with
   | cons h t =>
     obtain⟨tk,rfl⟩:=h
     exact .cons n tk (p7 t)
theorem Ao7 (hc:X.calm=true) (hK:X.K=K:=by rfl):Du X (.type "set") (fun xs H Q=>∃ l ns,xs=[V.ref l]/\SqL K H l (ns.map V.int)/\ns.length<=1000/\∀ D,H D=none->Q (.ref D) (upd H D (.set (setB ns) (Z1 ns)))):=by
 subst hK
 intro Aa s σ H xs us Q I r h
 obtain⟨l,ns,rfl,hq,hn,q⟩:=h
 obtain⟨u,rfl,rx⟩:=Mc r
 cases rx
 obtain⟨its,r1,pl,hz⟩:=I.list hq
 have hlen:its.toArray.size=ns.length:=by
  have:=r1.length
  simpa using this.symm
 refine PySem.call_set_list (ns:=ns) (I.ok.hd hc) pl.isList (by simpa using p7 r1) (by rw [hlen];unfold scanBound;omega) fun h' tk hS hk=>?_
 rw [hlen] at hS
 have hfresh:H s.heap.objs.size=none:=I.hok.fresh (Nat.le_refl _)
 exact ⟨.ref s.heap.objs.size,_,I.laid (a:=s.heap.objs.size) (o:=.set (setB ns) (Z1 ns)) (h':=h') (t':=tk) (fun b o e=>hk b o (Heap.lt_size e) e) (Nat.le_refl _) hS,rfl,q _ hfresh⟩
theorem Ao8:Du X (.builtin "len") (fun xs H Q=>∃ a S n,xs=[V.ref a]/\H a=some (.set S n)/\n<=1000/\Q (.int (n:Nat)) H):=by
 intro Aa s σ H xs us Q I r h
 obtain⟨a,S,n,rfl,ha,hn,q⟩:=h
 obtain⟨u,rfl,rx⟩:=Mc r
 cases rx
 obtain⟨o,es,ep,t,ho,hex,hd,_,_,_,hf,hn2⟩:=(show s.heap.SetOf (intKind X.prog X.w) a S n from I.hok a _ ha)
 subst hn2
 exact PySem.call_len_set ho hex hd hf (by omega) ⟨.int (es.size:Nat),H,(I.tok _).tok _,⟨_,rfl⟩,q⟩
end
section
variable {X:Cx}{A:Around}{E:Value->Shared->Prop}{Aa:List (Addr × Obj)}{σ:St}{H:Hp}{s:Shared}{a:Addr}{o:Obj}{kvs:List (V × V)}{y v:V}{u r:Value}
theorem As8 {Q:Unit->Shared->Prop} (hu:A.units<cLine) (I:Inv X Aa σ H s) (mu:Mut (H a)) (ho:s.heap.get? a=some o) (hO:OddObj o kvs) (k:IsKey H y) (ry:RelV y u) (rv:RelV v r) (hne:∀ p∈kvs,hsh p.1≠hsh y) (hl:kvs.length<sizeLine)
 (h:∀ o' s',OddObj o' (kvs++[(y,v)])->Inv X Aa σ (upd H a (XO a o')) s'->Q () s'):wpAny (model X.prog X.w) A (dictSet a u r) Q E s:=by
 obtain⟨hx,es,ep,hd,hE⟩:=hO
 have kv:=k.val ry
 unfold dictSet
 try with_reducible refine wpAny_holding ?_
 refine wpAny_bind (A28 hu I k ry fun tk=>?_)
 unfold dictSetHashed
 try with_reducible refine wpAny_holding ?_
 have hmem:=hE.mem
 refine wpAny_bind (b6 (s:={ s with toks:=tk }) kv ho hd (fun e he q=>?_) (fun e he q=>?_) ?_)
 . obtain⟨p,hp,_,h2⟩:=hmem e (Array.mem_toList_iff.mpr he)
   exact hne p hp (h2.symm.trans q)
 . obtain⟨p,hp,h1,h2⟩:=hmem e (Array.mem_toList_iff.mpr he)
   rw [q] at h1
   exact hne p hp (by rw [RelV.inj h1 ry])
 . have hsz:es.size=kvs.length:=by
    have:=Paired.length hE
    simpa using this.symm
   refine wpAny_bind (wpAny_rule ?_)
   refine wpAny_updateDictKeys (hz:=by omega) (s:={ s with toks:=tk }) ho hd ?_
   refine h (o.mapDictKeys fun es=>es.push ⟨hsh y,u,r⟩) _ ⟨hx.mapDictKeys _,_,ep+1,Obj.data_mapDictKeys hd _,?_⟩ ?_
   . rw [Array.toList_push]
     exact Paired.snoc hE ⟨ry,rv,rfl⟩
   . have hg:=Heap.get?_update_self (h:=s.heap) (a:=a) (fun o=>o.mapDictKeys fun es=>es.push ⟨hsh y,u,r⟩) ho (Obj.isFreed_of_dict (Obj.data_mapDictKeys hd _))
     exact Nm (I.tok tk) mu (Heap.SameBut.update ..) ⟨_,hg⟩ (Bc6 hg)
end
def tDispO (tk tv:TE):TE:=fun σ H Q=>∀ p,H p=none->tPairs [(tk,tv)] σ (upd H p (.dK [])) fun ps H2=>∃ y v,ps=[(y,v)]/\H2 p=some (.dK [])/\IsKey H2 y/\∀ o,(p==sysModules)=false->OddObj o [(y,v)]->Q (.ref p) (upd H2 p (XO p o))
theorem As2 {X:Cx}{pos:Pos}{k v:Expr}{tk tv:TE} (hu:X.A.units+1<cLine) (hk:PE X k tk) (hv:PE X v tv):PE X (.Dict [some k] [v] pos) (tDispO tk tv):=by
 intro Aa s σ H Q I q
 have hn:=I.hok.fresh (Nat.le_refl s.heap.objs.size)
 have I1:=I.laid (a:=s.heap.objs.size) (o:=.dK []) (h':=s.heap.push { cls:=.type "dict",data:=.dict #[] }) (t':=s.toks) (fun _ _ q=>Heap.get?_push_of_some _ q) (Nat.le_refl _) (dk_empty s.heap I.big)
 have hp:PPs X pos [some k] [v] [(tk,tv)]:=Oq hk hv T6
 rw [arm_eval_Dict,zip_pairTrees [some k] [v] X.env pos rfl rfl,dictDisplay_pairs _ (by intro z;cases z) (by show (1:Nat)<17;decide)]
 refine wpAny_bind (wpAny_standAt (wpAny_bind ?_))
 unfold subDict
 refine wpAny_bind (wpAny_alloc (wpAny_bind (wpAny_holding ?_)))
 rw [if_pos (by show (1:Nat)<=15;decide)]
 refine wpAny_bind (thn (hp Aa _ σ _ _ I1 (q _ hn)) fun ws s2 hh=>?_)
 . obtain⟨ps,H2,I2,rel,y,z,rfl,e,hy,q2⟩:=hh
   cases rel with
   | cons h1 h2 =>
     cases h2
     obtain⟨hsys,_,o,ho,hO⟩:=Bb7 I2 e (fun p hp=>by cases hp)
     refine wpAny_holding (wpAny_bind ?_)
     rw [List.forIn_cons]
     refine wpAny_bind (wpAny_bind (As8 (Nat.lt_of_succ_lt hu) I2 (by rw [e];exact True.intro) ho hO hy h1.1 h1.2 (fun p hp=>by cases hp) (by rw [sizeLine_eq];exact Nat.zero_lt_of_ne_zero (by decide)) fun o' s3 hO' I3=>wpAny_pure ?_))
     show wpAny _ _ (forIn [] PUnit.unit _) _ _ _
     rw [List.forIn_nil]
     exact wpAny_pure (wpAny_pure (wpAny_pure (wpAny_pure ⟨.ref s.heap.objs.size,_,I3,rfl,q2 o' hsys hO'⟩)))
theorem S1 {X:Cx}:Du X (.builtin "isinstance") (fun xs H Q=>∃ x,xs=[x,.ty "list"]/\((∃ a us,x=.ref a/\H a=some (.lst us)/\Q (.bl true) H)\/(∃ a us,x=.ref a/\H a=some (.tup us)/\Q (.bl false) H)\/(x=.non/\Q (.bl false) H))):=by
 intro Aa s σ H xs us Q I r h
 obtain⟨x,rfl,h⟩:=h
 rcases h with ⟨a,vs,rfl,ha,q⟩|⟨a,vs,rfl,ha,q⟩|⟨rfl,q⟩
 . obtain⟨u,v,rfl,rx,rt⟩:=Vz r
   cases rt
   cases rx
   obtain⟨_,its,m,_,ho⟩:=(show ObjOk X.prog X.w H s.heap a (.lst vs) from I.hok a _ ha)
   exact PySem.IsiPair.list_list ho rfl ⟨.bl true,H,I,rfl,q⟩
 . obtain⟨u,v,rfl,rx,rt⟩:=Vz r
   cases rt
   cases rx
   obtain⟨_,its,_,ob,ho,hc,_⟩:=(show ObjOk X.prog X.w H s.heap a (.tup vs) from I.hok a _ ha)
   exact PySem.IsiPair.tuple_list ho hc ⟨.bl false,H,I.tok _,rfl,q⟩
 . exact Qv rfl Aa s σ H _ us Q I r ⟨.non,"list",.d .non,rfl,.inr (.inr (.inr (.inr (.inl rfl)))),rfl,q⟩
theorem Ap3:bootBuiltins "set"=some (.type "set"):=by decide +kernel
end L2
namespace L2
open PySem PySem.Spec PyProof.Rows
theorem Xr {X:Cx}{K:W.Frag} (hc:X.calm=true) (hK:X.K=K:=by rfl):Du X (.builtin "max") (fun xs H Q=>∃ (p:Addr) (ks:List Int),xs=[.ref p]/\SqL K H p (ks.map V.int)/\ks≠[]/\∀ m,m∈ks->(∀ x∈ks,x<=m)->Q (.int m) H):=by
 subst hK
 intro Aa s σ H xs us Q I r h
 obtain⟨p,ks,rfl,hp,hne,q⟩:=h
 obtain⟨u,rfl,ru⟩:=Mc r
 cases ru
 have hh:X.A.handled=none:=I.ok.hd hc
 obtain⟨its,r1,pl,hz⟩:=I.list hp
 have hls:=pl.isList
 obtain⟨ol,hol,_⟩:=id hls
 have hll:p<s.heap.objs.size:=Heap.lt_size hol
 have hl:ks.length=its.toArray.size:=by
  have:=r1.length
  simpa using this
 have hname:(toString "max"++toString ".loop":String)="max.loop":=by decide
 refine PyProof.Rows.kmk_tree PySem.F.kind_max PySem.F.plain_max PySem.F.entry_max (X2 _) ?_
 show wpAny _ X.A.in1 (Builtin.Builtins.bindParams "max" ["key","default"] 0 ⟨[],[]⟩>>=_) _ _ s
 refine wpAny_bind (wpAny_of_eq (show Builtin.Builtins.bindParams "max" ["key","default"] 0 ⟨[],[]⟩=pure [none,none] from rfl) (wpAny_bind (wpAny_pure (wpAny_bind (wpAny_pyIter_list hls (wpAny_bind (wpAny_newList ?_ (Nat.zero_le _))))))))
 rw [hname]
 have hS:(s.heap.push { cls:=.type "list_iterator",data:=.fields #[.ref p,.int 0 0] }).objs.size=s.heap.objs.size+1:=Heap.size_push ..
 have hSz:(s.heap.objs.size+1:Nat)≠s.heap.objs.size:=Nat.succ_ne_self _
 have hSl:(s.heap.objs.size+1:Nat)≠p:=Nat.ne_of_gt (Nat.lt_succ_of_lt hll)
 refine wpAny_pure ⟨plainId_quiet PySem.F.plain_max_loop _,?_⟩
 have W:=Walks.list (prog:=X.prog) (w:=X.w) (A:=X.A.in1) hh s.heap.objs.size p (Nat.ne_of_lt hll) its.toArray
 refine Wu (S:=(s.heap.push { cls:=.type "list_iterator",data:=.fields #[.ref p,.int 0 0] }).objs.size) W ?_ (by rw [hS];exact hSz) ks hl (by rw [←hl];exact List.length_pos_iff.mpr hne) (fun i v hv=>?_) _ 0 _ _ #[] rfl (Nat.zero_le _) ?_ (Heap.get?_push_size _ rfl) (.inl ⟨rfl,rfl⟩) fun m t h' tk a1 a2 kk=>?_
 . rw [hS]
   simp
   exact hSl
 . have hv:its[i]?=some v:=by simpa using hv
   have hjl:i<ks.length:=by
    have h1:=(List.getElem?_eq_some_iff.mp hv).1
    rw [hl]
    simpa using h1
   obtain⟨w',hw,rw'⟩:=r1.get (show (ks.map V.int)[i]?=some (.int ks[i]) by rw [List.getElem?_map,List.getElem?_eq_getElem hjl];rfl)
   rw [hv] at hw
   cases hw
   obtain⟨t,rfl⟩:=rw'
   exact ⟨ks[i],t,List.getElem?_eq_getElem hjl,rfl⟩
 . exact ⟨⟨_,Heap.get?_push_of_some _ (Heap.get?_push_size _ rfl),rfl,rfl⟩,(hls.push _).push _⟩
 . refine⟨.int m,H,I.kept fun b o e=>?_,⟨t,rfl⟩,q m a1 a2⟩
   have hb:=Heap.lt_size e
   exact kk b o (Nat.ne_of_lt hb) (by rw [hS];exact Nat.ne_of_lt (Nat.lt_succ_of_lt hb)) (Heap.get?_push_of_some _ (Heap.get?_push_of_some _ e))
end L2
namespace Hb
open PySem L2
def mx:List Int->Int
 | []=>0
 | a::l=>l.foldl max a
theorem W8:∀ (l:List Int) (a:Int),(l.foldl max a∈a::l)/\a<=l.foldl max a/\∀ x∈l,x<=l.foldl max a
 | [],a=>⟨List.mem_cons_self ..,Int.le_refl _,fun x h=>by cases h⟩
 | b::l,a=>by
   obtain⟨h1,h2,h3⟩:=W8 l (max a b)
   refine⟨?_,?_,fun x hx=>?_⟩
   . show l.foldl max (max a b)∈_
     rcases List.mem_cons.mp h1 with e | e
     . rw [e]
       by_cases h:a<=b
       . rw [Int.max_eq_right h];simp
       . rw [Int.max_eq_left (by omega)];simp
     . exact List.mem_cons_of_mem _ (List.mem_cons_of_mem _ e)
   . show a<=l.foldl max (max a b)
     omega
   . show x<=l.foldl max (max a b)
     rcases List.mem_cons.mp hx with e | e
     . subst e;omega
     . exact h3 x e
theorem Aw5 {l:List Int} (h:l≠[]):mx l∈l/\∀ x∈l,x<=mx l:=by
 cases l with
 | nil=>exact absurd rfl h
 | cons a l =>
   obtain⟨h1,h2,h3⟩:=W8 l a
   exact ⟨h1,fun x hx=>by
    rcases List.mem_cons.mp hx with e | e
    . subst e;exact h2
    . exact h3 x e⟩
theorem At2 {l:List Int}{m:Int} (h1:m∈l) (h2:∀ x∈l,x<=m):m=mx l:=by
 have hne:l≠[]:=fun e=>by rw [e] at h1;cases h1
 obtain⟨q1,q2⟩:=Aw5 hne
 have:=h2 _ q1
 have:=q2 _ h1
 omega
theorem M3 (ns:List Int):∀ i,i<=ns.length->((PyProof.Rows.firstMet (fun i=>ns.getD i 0) i).length<=i/\((PyProof.Rows.firstMet (fun i=>ns.getD i 0) i).length=i↔(ns.take i).Nodup))
 | 0,_=>⟨Nat.le_refl _,by simp [PyProof.Rows.firstMet_zero]⟩
 | i+1,h=>by
   obtain⟨h1,h2⟩:=M3 ns i (by omega)
   have hi:i<ns.length:=by omega
   have e:ns.getD i 0=ns[i]:=by rw [List.getD_eq_getElem?_getD,List.getElem?_eq_getElem hi];rfl
   have tk:ns.take (i+1)=ns.take i++[ns[i]]:=by rw [List.take_succ,List.getElem?_eq_getElem hi];rfl
   have hm:(PyProof.Rows.firstMet (fun i=>ns.getD i 0) i).any (·==ns[i])=true↔ns[i]∈ns.take i:=by
    rw [PyProof.Rows.firstMet_any,List.any_map,List.any_eq_true]
    constructor
    . rintro ⟨j,hj,hq⟩
      have hj:=List.mem_range.mp hj
      have hjl:j<ns.length:=by omega
      have:ns.getD j 0=ns[i]:=by simpa using hq
      rw [List.getD_eq_getElem?_getD,List.getElem?_eq_getElem hjl] at this
      rw [←this]
      refine List.mem_of_getElem? (i:=j) ?_
      rw [List.getElem?_take,if_pos hj,List.getElem?_eq_getElem hjl]
      rfl
    . intro hq
      obtain⟨j,hj,hq⟩:=List.getElem_of_mem hq
      rw [List.length_take] at hj
      rw [List.getElem_take] at hq
      refine⟨j,List.mem_range.mpr (by omega),?_⟩
      show (ns.getD j 0==ns[i])=true
      rw [List.getD_eq_getElem?_getD,List.getElem?_eq_getElem (by omega)]
      simpa using hq
   rw [PyProof.Rows.firstMet_succ]
   unfold PyProof.Rows.step_dedup
   simp only [e]
   generalize PyProof.Rows.firstMet (fun i=>ns.getD i 0) i=F at h1 h2 hm ⊢
   rw [tk,List.nodup_append]
   by_cases hin:ns[i]∈ns.take i
   . rw [if_pos (hm.mpr hin)]
     refine⟨by omega,⟨fun z=>by omega,fun z=>?_⟩⟩
     exact absurd rfl (z.2.2 _ hin _ (List.mem_singleton.mpr rfl))
   . rw [if_neg (fun z=>hin (hm.mp z)),List.length_append]
     refine⟨by simp;omega,⟨fun z=>⟨h2.mp (by simp at z;omega),by simp,fun x hx y hy=>?_⟩,fun z=>?_⟩⟩
     . rw [List.mem_singleton.mp hy]
       intro q
       rw [q] at hx
       exact hin hx
     . have:=h2.mpr z.1
       simp
       omega
theorem Ak0 (ns:List Int):Z1 ns=ns.length↔ns.Nodup:=by
 have h:=(M3 ns ns.length (Nat.le_refl _)).2
 rw [List.take_length] at h
 exact h
theorem At8 (ns:List Int):Z1 ns<=ns.length:=(M3 ns ns.length (Nat.le_refl _)).1
theorem Av6:∀{kvs:List (Key × V)}{i:Nat}{k:Key}{v:V},(kvs.map (·.1)).Nodup->kvs[i]?=some (k,v)->valV kvs k=some v
 | [],i,k,v,_,h=>by simp at h
 | p::r,0,k,v,_,h=>by
   have:p=(k,v):=by simpa using h
   subst this
   exact On rfl
 | p::r,i+1,k,v,hn,h=>by
   rw [List.map_cons,List.nodup_cons] at hn
   have h':r[i]?=some (k,v):=by simpa using h
   rw [Oo (fun z=>hn.1 (by rw [z];exact List.mem_map.mpr ⟨(k,v),List.mem_of_getElem? h',rfl⟩))]
   exact Av6 hn.2 h'
def TOk (t:TT):Prop:=∀ kvs,t=.odd kvs->∀ p∈kvs,Dz (vD p.1)=false
theorem Wj {xs:List (List Int)}{k:Int}{d e:L2.D} (h:Dz d=false):E2 xs k d e=false:=by
 refine Gf ?_
 cases d with
 | int n=>exact nomatch (show true=false from h)
 | _=>rfl
inductive PT where
 | ch (ms:Ms) | bad
def PAt (H:Hp) (x:V):PT->Prop
 | .ch ms=>∃ a,x=.ref a/\H a=some (.dK (cK ms))/\ms.length<=100
 | .bad=>∃ t,Hi H x t/\TOk t/\∀ xs k,Gj xs k t=false
theorem PAt.same {H H':Hp}{x:V}{t:PT} (s:Same H H') (h:PAt H x t):PAt H' x t:=by
 cases t with
 | ch ms=>obtain⟨a,e,h1,h2⟩:=h;exact ⟨a,e,s _ _ h1,h2⟩
 | bad=>obtain⟨t,h1,h2⟩:=h;exact ⟨t,h1.same s,h2⟩
def chP (xs:List (List Int)) (k:Int):PT->Bool
 | .ch ms=>D6 xs k ms
 | .bad=>false
theorem PAt.thing {H:Hp}{x:V}{t:PT} (h:PAt H x t):∃ T,Hi H x T/\TOk T/\∀ xs k,Gj xs k T=chP xs k t:=by
 cases t with
 | ch ms=>obtain⟨a,rfl,h1,h2⟩:=h;exact ⟨.dk (cK ms),j7 h1 (by omega),(fun kvs e=>by cases e),fun xs k=>Xn xs k ms⟩
 | bad=>obtain⟨t,h1,h3,h2⟩:=h;exact ⟨t,h1,h3,fun xs k=>h2 xs k⟩
def Ff (i:Nat) (p:Int) (ms:Ms):Bool:=ms.all fun q=>decide (q.1<=(i:Int))&&(decide (1<=q.2)&&decide (q.2<p))
def levA (xs:List (List Int)) (i:Nat):Int:=levI (xs.getD i []).length
def D1 (xs:List (List Int)) (p:Int) (i:Nat):PT->Bool
 | .ch ms=>D6 xs (levA xs i) ms&&(decide (getI ms (i:Int)=1)&&Ff i p ms)
 | .bad=>false
theorem m5 {xs:List (List Int)}{p:Int}{i:Nat}{t:PT} (h:D1 xs p i t=true):∃ ms,t=.ch ms/\D6 xs (levA xs i) ms=true/\getI ms (i:Int)=1/\Ff i p ms=true:=by
 cases t with
 | bad=>cases h
 | ch ms =>
   have h':(D6 xs (levA xs i) ms&&(decide (getI ms (i:Int)=1)&&Ff i p ms))=true:=h
   rw [Bool.and_eq_true,Bool.and_eq_true,decide_eq_true_eq] at h'
   exact ⟨ms,rfl,h'.1,h'.2.1,h'.2.2⟩
theorem m4 {xs:List (List Int)}{p:Int}{i:Nat}{t:PT} (h:chP xs (levA xs i) t=false):D1 xs p i t=false:=by
 cases t with
 | bad=>rfl
 | ch ms =>
   show (D6 xs (levA xs i) ms&&_)=false
   rw [show D6 xs (levA xs i) ms=false from h]
   rfl
def Xc (xs:List (List Int)) (p:Int) (ms:Ms):List Int:=Ay (modI p (Ad9 xs ms))
def endO (xs:List (List Int)) (p:Int):PT->Option Int
 | .ch ms=>if Xc xs p ms=[] then none else some (mx (Xc xs p ms))
 | .bad=>none
def B5 (xs:List (List Int)) (p:Int) (ts:List PT):List Int:=ts.filterMap (endO xs p)
def allP (xs:List (List Int)) (p:Int) (ts:List PT) (n:Nat):Bool:=(List.range n).all fun i=>D1 xs p i (ts.getD i .bad)
def Bb3 (xs:List (List Int)) (p:Int) (ts:List PT):Bool:=decide (ts.length=xs.length)&&(allP xs p ts ts.length&&decide (B5 xs p ts).Nodup)
def E4 (xs:List (List Int)) (p:Int):Option (List PT)->Bool
 | none=>false
 | some ts=>Bb3 xs p ts
def PapL (H:Hp) (us:List V) (ts:List PT):Prop:=us.length=ts.length/\∀ (i:Nat) u t,us[i]?=some u->ts[i]?=some t->PAt H u t
def Fi (H:Hp) (x:V):Option (List PT)->Prop
 | some ts=>∃ a us,x=.ref a/\H a=some (.lst us)/\PapL H us ts/\ts.length<=100
 | none=>(∃ a us,x=.ref a/\H a=some (.tup us))\/x=.non
theorem PapL.same {H H':Hp}{us:List V}{ts:List PT} (s:Same H H') (h:PapL H us ts):PapL H' us ts:=⟨h.1,fun i u t e1 e2=>(h.2 i u t e1 e2).same s⟩
theorem Fi.same {H H':Hp}{x:V}{o:Option (List PT)} (s:Same H H') (h:Fi H x o):Fi H' x o:=by
 cases o with
 | some ts=>obtain⟨a,us,e,h1,h2,h3⟩:=h;exact ⟨a,us,e,s _ _ h1,h2.same s,h3⟩
 | none =>
   rcases h with ⟨a,us,e,h1⟩ | e
   . exact .inl ⟨a,us,e,s _ _ h1⟩
   . exact .inr e
theorem PapL.at {H:Hp}{us:List V}{ts:List PT} (h:PapL H us ts) {i:Nat} (hi:i<ts.length):∃ u,us[i]?=some u/\PAt H u (ts.getD i .bad):=by
 have hu:i<us.length:=by rw [h.1];exact hi
 refine⟨us[i],List.getElem?_eq_getElem hu,?_⟩
 rw [List.getD_eq_getElem?_getD,List.getElem?_eq_getElem hi]
 exact h.2 i _ _ (List.getElem?_eq_getElem hu) (List.getElem?_eq_getElem hi)
theorem Xb (xs:List (List Int)) (p:Int) (ts:List PT) {i:Nat} (hi:i<ts.length):B5 xs p (ts.take (i+1))=B5 xs p (ts.take i)++(match endO xs p (ts.getD i .bad) with | none=>[] | some m=>[m]):=by
 unfold B5
 rw [List.take_succ,List.getElem?_eq_getElem hi,List.filterMap_append,List.getD_eq_getElem?_getD,List.getElem?_eq_getElem hi]
 congr 1
 show ([ts[i]]).filterMap (endO xs p)=match endO xs p ts[i] with | none=>[] | some m=>[m]
 cases e:endO xs p ts[i] with
 | none=>rw [List.filterMap_cons_none e];rfl
 | some m=>rw [List.filterMap_cons_some e];rfl
theorem Vb (xs:List (List Int)) (p:Int) (ts:List PT):(B5 xs p ts).length<=ts.length:=List.length_filterMap_le ..
theorem Ap9 (xs:List (List Int)) (p:Int) (ts:List PT) (n:Nat):allP xs p ts (n+1)=(allP xs p ts n&&D1 xs p n (ts.getD n .bad)):=by
 unfold allP
 rw [List.range_succ,List.all_append]
 simp
theorem A49 {xs:List (List Int)}{p:Int}{ts:List PT}{n i:Nat} (hi:i<n) (h:D1 xs p i (ts.getD i .bad)=false):allP xs p ts n=false:=by
 unfold allP
 rw [List.all_eq_false]
 exact ⟨i,List.mem_range.mpr hi,by rw [h];decide⟩
theorem A50 {xs:List (List Int)}{p:Int}{ts:List PT}{n i:Nat} (hi:i<n) (h:allP xs p ts n=true):D1 xs p i (ts.getD i .bad)=true:=by
 unfold allP at h
 exact List.all_eq_true.mp h i (List.mem_range.mpr hi)
theorem Au4 {xs:List (List Int)}{p:Int}{ts:List PT} (i:Nat) (h:¬(B5 xs p (ts.take i)).Nodup):¬(B5 xs p ts).Nodup:=fun z=>by
 refine h (List.Nodup.sublist ?_ z)
 unfold B5
 exact List.Sublist.filterMap _ (List.take_sublist ..)
def zF (ms:Ms) (fs:List Int) (n:Int):Nat->Ms
 | 0=>ms
 | j+1=>putI (zF ms fs n j) (fs.getD j 0) (getI (zF ms fs n j) (fs.getD j 0)+sgn n j)
def zN (xs:List (List Int)) (ms:Ms):Nat->Ms
 | 0=>[]
 | i+1=>zF (zN xs ms i) (xs.getD (ms.getD i (0,0)).1.toNat []) (ms.getD i (0,0)).2 (xs.getD (ms.getD i (0,0)).1.toNat []).length
theorem Au1 (ms:Ms) (k v j:Int):getI (putI ms k v) j=if j=k then v else getI ms j:=by
 unfold getI
 rw [Pu]
 split<;>rfl
theorem Aw9 (ms:Ms) (fs:List Int) (n k:Int):∀ j,getI (zF ms fs n j) k=getI ms k+oftN fs k j*n
 | 0=>by simp [zF,oftN]
 | j+1=>by
   have ih:=Aw9 ms fs n k j
   show getI (putI (zF ms fs n j) (fs.getD j 0) (getI (zF ms fs n j) (fs.getD j 0)+sgn n j)) k=getI ms k+(if fs.getD j 0=k then oftN fs k j+1-2*((j:Int)%2) else oftN fs k j)*n
   rw [Au1]
   by_cases h:fs.getD j 0=k
   . rw [if_pos h.symm,if_pos h,h,ih]
     unfold sgn
     by_cases h2:(j:Int)%2=0
     . rw [if_pos h2,h2]
       rw [show oftN fs k j+1-2*0=oftN fs k j+1 by omega,Int.add_mul]
       omega
     . have h3:(j:Int)%2=1:=by omega
       rw [if_neg h2,h3]
       rw [show oftN fs k j+1-2*1=oftN fs k j+-1 by omega,Int.add_mul]
       omega
   . rw [if_neg (fun z=>h z.symm),if_neg h]
     exact ih
theorem Ba1 {ms:Ms} (h:nd ms) (fs:List Int) (n:Int):∀ j,nd (zF ms fs n j)
 | 0=>h
 | j+1=>Ai5 (Ba1 h fs n j) _ _
theorem Aj6 (ms:Ms) (fs:List Int) (n:Int):∀ j,(zF ms fs n j).length<=ms.length+j
 | 0=>Nat.le_refl _
 | j+1=>by
   have h1:=Aj6 ms fs n j
   have h2:=Zy (zF ms fs n j) (fs.getD j 0) (getI (zF ms fs n j) (fs.getD j 0)+sgn n j)
   show (putI _ _ _).length<=_
   omega
theorem A11 (xs:List (List Int)) (ms:Ms):∀ i,nd (zN xs ms i)
 | 0=>List.nodup_nil
 | i+1=>Ba1 (A11 xs ms i) _ _ _
theorem n0 {xs:List (List Int)} (h4:∀ x∈xs,x.length<=4) (ms:Ms):∀ i,(zN xs ms i).length<=4*i
 | 0=>Nat.le_refl _
 | i+1=>by
   have h1:=n0 h4 ms i
   have h2:=Aj6 (zN xs ms i) (xs.getD (ms.getD i (0,0)).1.toNat []) (ms.getD i (0,0)).2 (xs.getD (ms.getD i (0,0)).1.toNat []).length
   have h3:(xs.getD (ms.getD i (0,0)).1.toNat []).length<=4:=by
    rw [List.getD_eq_getElem?_getD]
    cases e:xs[(ms.getD i (0,0)).1.toNat]? with
    | none=>show (0:Nat)<=4;omega
    | some x=>exact h4 x (List.mem_of_getElem? e)
   show (zF _ _ _ _).length<=_
   omega
theorem Ae7 (xs:List (List Int)) (ms:Ms) (y:Int):∀ i,getI (zN xs ms i) y=getI (Qw xs ms i) y
 | 0=>rfl
 | i+1=>by
   show getI (zF (zN xs ms i) _ _ _) y=getI (Lb (Qw xs ms i) _ _ _) y
   rw [Aw9,P8,Ae7 xs ms y i]
theorem Ux (xs:List (List Int)) (ms:Ms):∀ i,nd (Qw xs ms i)
 | 0=>List.nodup_nil
 | i+1=>Ot (Ux xs ms i) _ _ _
theorem Aj1 {p:Int}:∀{ms:Ms},nd ms->∀ y,y∈Ay (modI p ms)↔getI ms y%p≠0:=fun {ms} h y=>by
 unfold Ay modI
 rw [List.map_map]
 constructor
 . intro hm
   obtain⟨q,hq,rfl⟩:=List.mem_map.mp hm
   obtain⟨h1,h2⟩:=List.mem_filter.mp hq
   have:getI ms q.1=q.2:=by unfold getI;rw [Gy h h1];rfl
   show getI ms q.1%p≠0
   rw [this]
   simpa using h2
 . intro hm
   unfold getI at hm
   cases e:Bd ms y with
   | none=>rw [e] at hm;simp at hm
   | some v =>
     rw [e] at hm
     exact List.mem_map.mpr ⟨(y,v),List.mem_filter.mpr ⟨Ll e,by simpa using hm⟩,rfl⟩
def F8 (p:Int) (l:Ms):List Int:=(l.filter fun q=>decide (q.2%p≠0)).map (·.1)
theorem Ai9 {p:Int}{l:Ms} (h:nd l) (y:Int):y∈F8 p l↔getI l y%p≠0:=by
 rw [←Aj1 h]
 unfold F8 Ay modI
 rw [List.map_map]
 exact Iff.rfl
theorem u9 (xs:List (List Int)) (p:Int) (ms:Ms) (y:Int):y∈F8 p (cutI (zN xs ms ms.length))↔y∈Xc xs p ms:=by
 rw [Ai9 (Be6 (A11 xs ms _))]
 show _↔y∈Ay (modI p (Qw xs ms ms.length))
 rw [Aj1 (Ux xs ms _),Bb4 (A11 xs ms _),Ae7]
theorem A14 {l l':List Int} (h:∀ y,y∈l↔y∈l'):mx l=mx l'/\(l=[]↔l'=[]):=by
 have hn:l=[]↔l'=[]:=by
  constructor
  . intro e
    cases l' with
    | nil=>rfl
    | cons a r=>have:=(h a).mpr (List.mem_cons_self ..);rw [e] at this;cases this
  . intro e
    cases l with
    | nil=>rfl
    | cons a r=>have:=(h a).mp (List.mem_cons_self ..);rw [e] at this;cases this
 refine⟨?_,hn⟩
 by_cases e:l=[]
 . rw [e,hn.mp e]
 . obtain⟨q1,q2⟩:=Aw5 e
   exact At2 ((h _).mp q1) fun x hx=>q2 x ((h x).mpr hx)
theorem PapL.take {H:Hp}{us:List V}{ts:List PT} (h:PapL H us ts) (n:Nat):PapL H (us.take n) (ts.take n):=by
 refine⟨by rw [List.length_take,List.length_take,h.1],fun i u t e1 e2=>?_⟩
 rw [List.getElem?_take] at e1 e2
 split at e1
 . rename_i hi
   rw [if_pos hi] at e2
   exact h.2 i u t e1 e2
 . cases e1
theorem PapL.drop {H:Hp}{us:List V}{ts:List PT} (h:PapL H us ts) (n:Nat):PapL H (us.drop n) (ts.drop n):=by
 refine⟨by rw [List.length_drop,List.length_drop,h.1],fun i u t e1 e2=>?_⟩
 rw [List.getElem?_drop] at e1 e2
 exact h.2 (n+i) u t e1 e2
theorem PapL.app {H:Hp}{us vs:List V}{ts rs:List PT} (h:PapL H us ts) (h':PapL H vs rs):PapL H (us++vs) (ts++rs):=by
 refine⟨by rw [List.length_append,List.length_append,h.1,h'.1],fun i u t e1 e2=>?_⟩
 by_cases hi:i<us.length
 . rw [List.getElem?_append_left hi] at e1
   rw [List.getElem?_append_left (by rw [←h.1];exact hi)] at e2
   exact h.2 i u t e1 e2
 . rw [List.getElem?_append_right (by omega)] at e1
   rw [List.getElem?_append_right (by rw [←h.1];omega),←h.1] at e2
   exact h'.2 _ u t e1 e2
theorem PapL.one {H:Hp}{u:V}{t:PT} (h:PAt H u t):PapL H [u] [t]:=⟨rfl,fun i u' t' e1 e2=>by
 cases i with
 | zero=>cases e1;cases e2;exact h
 | succ i=>simp at e1⟩
theorem An2 (us:List V):cutV us none (some (-1))=us.take (us.length-1):=by
 rcases List.eq_nil_or_concat us with e|⟨vs,y,e⟩
 . subst e;rfl
 . rw [List.concat_eq_append] at e
   subst e
   rw [Au7,List.length_append]
   simp
theorem Ap5 {H:Hp}{x:V} (h:Sca x):PAt H x .bad:=⟨.data (vD x),⟨h,rfl⟩,(fun kvs e=>by cases e),fun _ _=>rfl⟩
theorem A45 {H:Hp}{a:Addr}{us:List V} (h:H a=some (.lst us)):PAt H (.ref a) .bad:=⟨.lst,⟨a,us,rfl,h⟩,(fun kvs e=>by cases e),fun _ _=>rfl⟩
theorem Ax4 {H:Hp}{a:Addr}{k:Key}{v:V} (h:H a=some (.dK [(k,v)])) (hs:Sca v) (hz:nzD (vD v)=false):PAt H (.ref a) .bad :=
 ⟨.dk [(k,v)],⟨a,rfl,h,(by show (1:Nat)<=1000;decide),fun p hp=>by rw [List.mem_singleton.mp hp];exact hs⟩,(fun kvs e=>by cases e),fun xs l=>by
  show (E2 xs l (vD (kV k)) (vD v)&&true)=false
  rw [Lj hz]
  rfl⟩
theorem A44 {H:Hp}{a:Addr}{v:V} (h:Vw H a [(.bl true,v)]) (hs:Sca v):PAt H (.ref a) .bad :=
 ⟨.odd [(.bl true,v)],⟨a,rfl,h,(by show (1:Nat)<=1000;decide),fun p hp=>by rw [List.mem_singleton.mp hp];exact ⟨.inl True.intro,hs⟩⟩,(fun kvs e p hp=>by cases e;rw [List.mem_singleton.mp hp];rfl),fun xs l=>by
  show (E2 xs l (vD (.bl true)) (vD v)&&true)=false
  rw [Gf rfl]
  rfl⟩
theorem Ay0 {K:W.Frag}{H H1 H':Hp}{pc sh ed en a:Addr}{us:List V} (fr:FrG pc sh ed en H1 H') (hn:∀ c,W4 pc sh ed en c->H c=none) (s:Same H H1) (h:SqL K H a us):SqL K H' a us:=by
 rcases h with (h|⟨o,h⟩) | h
 . exact .inl (.inl (fr _ _ (fun w=>by rw [hn a w] at h;cases h) (s _ _ h)))
 . exact .inl (.inr ⟨o,fr _ _ (fun w=>by rw [hn a w] at h;cases h) (s _ _ h)⟩)
 . exact .inr h
theorem Ak1 {s:Ms}{i:Nat} (h:nd s) (hk:∀ x∈Ay s,0<=x/\x<=(i:Int)):s.length<=i+1:=by
 have h1:=Aj7 (Ay s) ((List.range (i+1)).map fun (j:Nat)=>(j:Int)) h fun x hx=>by
  obtain⟨a,b⟩:=hk x hx
  obtain⟨m,rfl⟩:=Int.eq_ofNat_of_zero_le a
  exact List.mem_map.mpr ⟨m,List.mem_range.mpr (by omega),rfl⟩
 rw [List.length_map,List.length_range] at h1
 unfold Ay at h1
 rwa [List.length_map] at h1
theorem Ar3 {p:Int} (h:p∈([2,3,5,7,11,13,17,19,23,29,31,37,41,43,47,53,59,61,67,71,73,79,83,89,97]:List Int)):E9 p/\p<98:=by
 have e:([2,3,5,7,11,13,17,19,23,29,31,37,41,43,47,53,59,61,67,71,73,79,83,89,97]:List Int)=prs 96:=by decide +kernel
 rw [e] at h
 exact Az0 h
def DL (H:Hp) (us:List V) (l:List Ms):Prop:=us.length=l.length/\∀ (i:Nat) (r:Ms),l[i]?=some r->∃ b,us[i]?=some (.ref b)/\H b=some (.dK (cK r))
def DN (H:Hp) (D:Addr) (us:List V) (l:List Ms):Prop:=us.length=l.length/\∀ (i:Nat) (r:Ms),l[i]?=some r->∃ b,us[i]?=some (.ref b)/\H b=some (.dK (cK r))/\b≠D
theorem DN.dl {H:Hp}{D:Addr}{us:List V}{l:List Ms} (h:DN H D us l):DL H us l :=
 ⟨h.1,fun i r e=>by obtain⟨b,h1,h2,_⟩:=h.2 i r e;exact ⟨b,h1,h2⟩⟩
theorem DN.nil (H:Hp) (D:Addr):DN H D [] []:=⟨rfl,fun i r h=>by simp at h⟩
theorem DN.same {H H':Hp}{D:Addr}{us:List V}{l:List Ms} (s:Same H H') (h:DN H D us l):DN H' D us l :=
 ⟨h.1,fun i r e=>by obtain⟨b,h1,h2,h3⟩:=h.2 i r e;exact ⟨b,h1,s _ _ h2,h3⟩⟩
theorem DN.snoc {H:Hp}{D b:Addr}{o:HO}{us:List V}{l:List Ms}{r:Ms} (h:DN H D us l) (hb:H b=some (.dK (cK r))) (hn:b≠D):DN (upd H D o) D (us++[.ref b]) (l++[r]):=by
 refine⟨by rw [List.length_append,List.length_append,h.1];rfl,fun i r' e=>?_⟩
 by_cases hi:i<l.length
 . rw [List.getElem?_append_left hi] at e
   obtain⟨c,e1,e2,e3⟩:=h.2 i r' e
   exact ⟨c,by rw [List.getElem?_append_left (by rw [h.1];exact hi)];exact e1,by rw [Ae e3];exact e2,e3⟩
 . have hil:i=l.length:=by
    have:=(List.getElem?_eq_some_iff.mp e).1
    rw [List.length_append] at this
    simp at this
    omega
   subst hil
   rw [List.getElem?_append_right (Nat.le_refl _),Nat.sub_self] at e
   cases e
   refine⟨b,?_,by rw [Ae hn];exact hb,hn⟩
   rw [List.getElem?_append_right (by rw [h.1];exact Nat.le_refl _),h.1,Nat.sub_self]
   rfl
theorem DL.getV {H:Hp}{us:List V}{l:List Ms}{i:Nat}{v:V} (h:DL H us l) (hv:us[i]?=some v):∃ b r,v=.ref b/\l[i]?=some r/\H b=some (.dK (cK r)):=by
 have hi:i<l.length:=by rw [←h.1];exact (List.getElem?_eq_some_iff.mp hv).1
 obtain⟨b,e1,e2⟩:=h.2 i _ (List.getElem?_eq_getElem hi)
 rw [hv] at e1
 cases e1
 exact ⟨b,_,rfl,List.getElem?_eq_getElem hi,e2⟩
theorem DL.pap {H:Hp}{us:List V}{l:List Ms} (h:DL H us l) (hl:∀ m∈l,m.length<=50):PapL H us (l.map .ch):=by
 refine⟨by rw [h.1,List.length_map],fun i u t e1 e2=>?_⟩
 obtain⟨b,r,rfl,hr,hb⟩:=h.getV e1
 rw [List.getElem?_map,hr] at e2
 cases e2
 have:=hl r (List.mem_of_getElem? hr)
 exact ⟨b,rfl,hb,by omega⟩
def edM (xs:List (List Int)) (p:Int):PT->Ms
 | .ch ms=>modI p (Ad9 xs ms)
 | .bad=>[]
theorem A35 (xs:List (List Int)) (p:Int) (t:PT):endO xs p t=if Ay (edM xs p t)=[] then none else some (mx (Ay (edM xs p t))):=by
 cases t with
 | ch ms=>rfl
 | bad=>rfl
theorem Ad7 {g:TG}{te:TE}{D:Addr}{Q:Hp->Prop}{τ:St}{H:Hp}{K:W.Frag}{a:Addr}{xs:List V} (Pv:Nat->List V->St->Hp->Prop) (h0:Pv 0 [] τ H) (hl:∀ i ys τ H,i<=xs.length->Pv i ys τ H->SqL K H a xs)
 (hs:∀ i x ys τ H p,xs[i]?=some x->Pv i ys τ H->H p=none->g (.ref p) τ (upd H p (.tup [.int i,x])) fun τ2 H2=>te τ2 H2 fun y H4=>H4 D=some (.lst ys)/\ys.length<sizeLine/\Pv (i+1) (ys++[y]) τ2 (upd H4 D (.lst (ys++[y]))))
 (hd:∀ ys τ H,Pv xs.length ys τ H->Q H):RunC (Ite K a) g tYes te D Q τ H:=Ao0 Pv h0 hl (fun i x ys τ H p e pp hp=>hs i x ys τ H p e pp hp) hd
section
variable (K:W.Frag)
def Me:Sp:=Af5 K
def Le:Sp:=Dh K
def Kv (_K:W.Frag):Sp:=fun vs H Q _=>∃ (a:Addr) (ms:Ms),vs=[.ref a]/\H a=some (.dK (cK ms))/\ms.length<=1000/\newC H (cutI ms) Q
def Ib:Sp:=fun vs H Q _=>∃ (a b:Addr) (xs:List (List Int)) (ms:Ms) (k:Int),vs=[.ref a,.ref b]/\LT K H (.ref a) xs/\H b=some (.dK (cK ms))/\ms.length<=100/\(∀ x∈xs,x.length<=4)/\D6 xs k ms=true/\newC H (cutI (zN xs ms ms.length)) Q
def Kw:Sp:=fun vs H Q _=>∃ (a:Addr) (xs:List (List Int)) (k:Int) (x:V) (t:TT),vs=[.ref a,.int k,x]/\LT K H (.ref a) xs/\Hi H x t/\TOk t/\∀ H',Same H H'->Q (.bl (Gj xs k t)) H'
def Ku:Sp:=fun vs H Q _=>∃ (a:Addr) (xs:List (List Int)) (p:Int) (i:Nat) (x:V) (t:PT),vs=[.ref a,.int p,.int (i:Int),x]/\LT K H (.ref a) xs/\i<xs.length/\PAt H x t/\∀ H',Same H H'->Q (.bl (D1 xs p i t)) H'
def Ye:Sp:=fun vs H Q _=>∃ (a:Addr) (xs:List (List Int)) (p:Int) (x:V) (o:Option (List PT)),vs=[.ref a,.int p,x]/\LT K H (.ref a) xs/\(∀ x∈xs,x.length<=4)/\xs.length<=40/\0<p/\p<98/\Fi H x o/\∀ H',Same H H'->Q (.bl (E4 xs p o)) H'
def O0:Sp:=fun vs H Q _=>∃ (a:Addr) (xs:List (List Int)) (p:Int) (i:Nat) (x:V) (t:PT),vs=[.ref a,.int p,.int (i:Int),x]/\LT K H (.ref a) xs/\i<xs.length/\PAt H x t/\∀ H',Same H H'->Q (.bl (D1 xs p i t)) H'
def O1:Sp:=fun vs H Q _=>∃ (a:Addr) (xs:List (List Int)) (p:Int) (x:V) (o:Option (List PT)),vs=[.ref a,.int p,x]/\LT K H (.ref a) xs/\(∀ x∈xs,x.length<=4)/\xs.length<=40/\0<p/\p<98/\Fi H x o/\∀ H',Same H H'->Q (.bl (E4 xs p o)) H'
def Md:Sp:=fun vs H Q _=>∃ (a l:Addr) (ns:List Int) (us:List V) (mss:List Ms) (p:Int),vs=[.ref a,.ref l,.int p]/\SqL K H a (ns.map V.int)/\ns.length<=63/\H l=some (.lst us)/\PapL H us (mss.map .ch)/\mss.length<=40/\(∀ m∈mss,m.length<=50) ∧
 ∀ (x:V) (o:Option (List PT)) (H':Hp),Same H H'->Fi H' x o->Q x H'
end
end Hb
namespace Hb
open PySem L2
def top (i:Nat):Stmt:=PySem.Challenge.pw_holebook_k69_a_growth_looked_at.main.body.getD i (.Pass ⟨0,0,0,0⟩)
structure Txt (K:W.Frag) (mg:Str->Option Value) (Ad:Addr):Prop where
 m_Growth:mg "Growth"=some (.ref Ad)
 cl_Growth:Cls K Ad
 na_Growth_prime:NoAttr K Ad "prime"
 na_Growth_pieces:NoAttr K Ad "pieces"
 na_Growth_sheets:NoAttr K Ad "sheets"
 na_Growth_edges:NoAttr K Ad "edges"
 na_Growth_enders:NoAttr K Ad "enders"
 x_FACE_COUNTS:∃ a,mg "FACE_COUNTS"=some (.ref a)/\∀ H,SqT K H a (([0,2,3,4]:List Int).map V.int)
 x_MOST_PIECES:∃ t,mg "MOST_PIECES"=some (.int 40 t)
 x_PRIME_BOUND:∃ t,mg "PRIME_BOUND"=some (.int 98 t)
 x_LEVELS:∃ t,mg "LEVELS"=some (.int 4 t)
 n_isinstance:mg "isinstance"=none
 n_int:mg "int"=none
 n_bool:mg "bool"=none
 n_tuple:mg "tuple"=none
 n_zip:mg "zip"=none
 n_max:mg "max"=none
 n_len:mg "len"=none
 n_all:mg "all"=none
 n_range:mg "range"=none
 n_dict:mg "dict"=none
 n_any:mg "any"=none
 n_enumerate:mg "enumerate"=none
 n_list:mg "list"=none
 n_set:mg "set"=none
 n_sorted:mg "sorted"=none
def cutS (ns:List Int) (lo hi:Option Int):List Int:=(ns.drop (HT.sIx ns.length 0 lo)).take (HT.sIx ns.length ns.length hi-HT.sIx ns.length 0 lo)
theorem Au8 (ns:List Int) (lo hi:Option Int):cutV (ns.map V.int) lo hi=(cutS ns lo hi).map V.int:=by
 unfold cutV cutS
 rw [List.length_map,List.map_take,List.map_drop]
theorem Au9 (ns:List Int) (lo hi:Option Int):(cutS ns lo hi).length<=ns.length:=by
 unfold cutS
 rw [List.length_take,List.length_drop]
 omega
theorem Be5:(["number"]:List Str).Nodup:=by decide +kernel
theorem Ba0:(["old","new","quotient"]:List Str).Nodup:=by decide +kernel
theorem Be4:(["face","shape","level"]:List Str).Nodup:=by decide +kernel
theorem A92:(["place","number","shape","k"]:List Str).Nodup:=by decide +kernel
theorem Be3:(["k","shape","thing"]:List Str).Nodup:=by decide +kernel
theorem A91:(["place","old","number"]:List Str).Nodup:=by decide +kernel
theorem Be2:(["number","thing"]:List Str).Nodup:=by decide +kernel
theorem A90:(["place","number","prime"]:List Str).Nodup:=by decide +kernel
theorem Be1:(["edge"]:List Str).Nodup:=by decide +kernel
theorem Be0:(["paper","shape","prime"]:List Str).Nodup:=by decide +kernel
theorem Aw3:(["place","paper","shape","prime"]:List Str).Nodup:=by decide +kernel
theorem A99:(["number","prime"]:List Str).Nodup:=by decide +kernel
theorem A98:(["_law_letter"]:List Str).Nodup:=by decide +kernel
theorem A97:(["_law_i","_law_word"]:List Str).Nodup:=by decide +kernel
theorem A96:(["_law_word","_law_family","_law_words"]:List Str).Nodup:=by decide +kernel
theorem A95:(["_law_face","_law_words"]:List Str).Nodup:=by decide +kernel
theorem A94:(["_law_spot","_law_edge","_law_prime"]:List Str).Nodup:=by decide +kernel
theorem A93:(["_law_place","_law_growth"]:List Str).Nodup:=by decide +kernel
section
variable {P:Program}{w:World}{K:W.Frag}{mg:Str->Option Value}{base:Heap}{Ad:Addr}
abbrev Ep:Stmt:=top 2
theorem Yr:FnScope ["thing"] ["thing"] (Ah Ep):=⟨rfl,rfl,rfl,by decide +kernel,rfl,by decide +kernel,by decide +kernel⟩
theorem Za {f:Addr}{fd:FuncData} (F:Fun K "is_whole" "is_whole" Ep f fd) (T:Txt K mg Ad) :FnOk P w K mg base CX0 1 f fd ["thing"] (Ew K):=by
 refine F.ok Yr (fun vs H Q E h=>?_) (fun Bo A outer s H vs Q E hr h=>?_)
 . obtain⟨x,d,rfl,hx,k⟩:=h
   rfl
 . obtain⟨x,d,rfl,hx,k⟩:=h
   refine⟨_,(Ai (At (N3 (An (D4 (K:=K)) (by rfl) T.n_isinstance A3 (Ab (pv 0) (Ab (Fp (v:=.ty "int") rfl T.n_int boot_intT rfl) Ag))) (N2 (Aw2 (An (D4 (K:=K)) (by rfl) T.n_isinstance A3 (Ab (pv 0) (Ab (Fp (v:=.ty "bool") rfl T.n_bool Nu rfl) Ag)))))))),?_⟩
   refine⟨_,rfl,_,_,d,rfl,.inl rfl,hx,_,rfl,?_⟩
   refine ite2 (fun e=>?_) (fun e=>?_)
   . refine⟨_,rfl,_,_,d,rfl,.inr (.inl rfl),hx,_,rfl,?_⟩
     have e2:Dz d=!isD "bool" d:=by unfold Dz;rw [e];rfl
     rw [e2] at k
     exact k
   . have e2:Dz d=false:=by unfold Dz;simp [e]
     rw [e2] at k
     exact k
abbrev Bk:Stmt:=top 4
theorem Mj:FnScope ["one","other","last","now","quotient","rest"] ["one","other"] (Ah Bk):=⟨rfl,rfl,rfl,by decide +kernel,rfl,by decide +kernel,by decide +kernel⟩
theorem Bg:(["one","other","last","now","quotient","rest"]:List Str).Nodup:=by decide +kernel
theorem Mr {f:Addr}{fd:FuncData} (F:Fun K "shared_divisor" "shared_divisor" Bk f fd) (T:Txt K mg Ad) :FnOk P w K mg base CX0 1 f fd ["one","other"] (Yf K):=by
 refine F.ok Mj (fun vs H Q E h=>?_) (fun Bo A outer s H vs Q E hr h=>?_)
 . obtain⟨n,p,rfl,hp,hp98,hn,k⟩:=h
   rfl
 . obtain⟨n,p,rfl,hp,hp98,hn,k⟩:=h
   refine⟨_,(Af (Ar (i:=2) Bg (by rfl) (by first | exact Or.inl rfl | exact Or.inr rfl) (Ge (Ab (pv 0) (Ab Aj (Ab Aj Ag)))))
    (Af (Ar (i:=3) Bg (by rfl) (by first | exact Or.inl rfl | exact Or.inr rfl) (Ge (Ab (pv 1) (Ab Aj (Ab Aj Ag)))))
    (Af (l8 PassesOwn.never (Ao Lk (Cc (Ce (K:=K)) (pv 3) Aj (fun _ _=>rfl)) Aj (Ax _)) (Af (Ar (i:=4) Bg (by rfl) (by first | exact Or.inl rfl | exact Or.inr rfl) (A0 Fq (Cc (Ce (K:=K)) (pv 2) Aj (fun _ _=>rfl)) (Cc (Ce (K:=K)) (pv 3) Aj (fun _ _=>rfl))))
    (Af (Ar (i:=5) Bg (by rfl) (by first | exact Or.inl rfl | exact Or.inr rfl) (B4 (Dw (K:=K)) (by rfl) T.n_tuple E8 (Ab (Ct (N':=["old","new","quotient"]) (cap:=[none,none,some 4]) (by rfl) (by kernel_rfl) (Az3 (K:=K) (by rfl) T.n_zip (Ab (pv 2) (Ab (pv 3) Ag))) (fun _ _ _ _=>(Ip (K:=K) (n:=2) (by rfl) (Bu (Au (i:=0) Ba0 (by rfl) (by first | exact Or.inl rfl | exact Or.inr rfl)) (Bu (Au (i:=1) Ba0 (by rfl) (by first | exact Or.inl rfl | exact Or.inr rfl)) Ii)))) (fun _ _ _ _=>Cs) (fun _ _ _ _=>(A0 Ik (pv 0) (A0 op_mulX (pv 2) (pv 1))))) Ag)))
    (Af (Ar (i:=2) Bg (by rfl) (by first | exact Or.inl rfl | exact Or.inr rfl) (pv 3))
    (Ai (Ar (i:=3) Bg (by rfl) (by first | exact Or.inl rfl | exact Or.inr rfl) (pv 5)))))))
    (Af (Bh (Ao Oh (Cc (Ce (K:=K)) (pv 2) Aj (fun _ _=>rfl)) Aj (Ax _)) (Ai (At (B4 (Dw (K:=K)) (by rfl) T.n_tuple E8 (Ab (Ct (N':=["number"]) (cap:=[none]) (by rfl) (by kernel_rfl) (U0 (K:=K) (pv 2)) (fun _ _ _ _=>(Au (i:=0) Be5 (by rfl) (by first | exact Or.inl rfl | exact Or.inr rfl))) (fun _ _ _ _=>Cs) (fun _ _ _ _=>(Ah4 V0 (pv 0)))) Ag)))) Aw)
    (Ai (At (pv 2))))))),?_⟩
   have hp2:=hp.two
   refine⟨_,rfl,A7 (by simp),fun L0 hL0=>?_⟩
   have s0:Same H (upd H L0 (.tup [.int n,.int 1,.int 0])):=Same.new hL0
   refine⟨_,rfl,A7 (by simp),fun N0 hN0=>?_⟩
   have s1:Same (upd H L0 (.tup [.int n,.int 1,.int 0])) (upd (upd H L0 (.tup [.int n,.int 1,.int 0])) N0 (.tup [.int p,.int 0,.int 1])):=Same.new hN0
   refine Ia (fun σ' H'=>σ'=[some (.int n),some (.int p),some (.ref L0),some (.ref N0),none,none]/\H'=upd (upd H L0 (.tup [.int n,.int 1,.int 0])) N0 (.tup [.int p,.int 0,.int 1])) ?_ fun key0=>key0 _ _ ⟨rfl,rfl⟩
   rintro _ _ ⟨rfl,rfl⟩
   refine Aq (fun σ' H'=>∃ (L N:Addr) (x y:Int) (o4 o5:Option V),σ'=[some (.int n),some (.int p),some (.ref L),some (.ref N),o4,o5]/\Same H H'/\SqT K H' L [.int 1,.int x,.int y]/\p∣1-x*n) ?_ fun key=>?_
   rotate_left
   . refine⟨fun m σ G=>∃ (L N:Addr) (a x y b u v:Int) (o4 o5:Option V),σ=[some (.int n),some (.int p),some (.ref L),some (.ref N),o4,o5]/\Same H G/\SqT K G L [.int a,.int x,.int y]/\SqT K G N [.int b,.int u,.int v]/\Eu n p a x b u/\((b=p/\u=0/\v=1)\/(0<=b/\b<a/\a<=p))/\m=b.toNat,⟨_,L0,N0,n,1,0,p,0,1,none,none,rfl,s0.trans s1,.of (s1 _ _ Ac),.of Ac,Eu.start n p,.inl ⟨rfl,rfl,rfl⟩,rfl⟩,?_⟩
     rintro m σ G ⟨L,N,a,x,y,b,u,v,o4,o5,rfl,s2,hL,hN,hE,hst,rfl⟩
     refine⟨_,rfl,N,_,_,_,rfl,rfl,hN,rfl,rfl,_,rfl,?_⟩
     refine ite2 (fun h1=>?_) (fun h1=>?_)
     . have hb0:¬b=0:=by simpa using h1
       have hbp:0<b/\b<=p:=by omega
       have hq:IntMulOk (a / b) u/\IntMulOk (a / b) v:=by
        rcases hst with ⟨_,e1,e2⟩|⟨e0,e1,e2⟩
        . subst e1 e2
          exact ⟨Ai7 (by decide) (by decide),Ai7 (by decide) (by decide)⟩
        . have q0:0<=a / b:=Int.ediv_nonneg (by omega) (by omega)
          have q1:a / b<=a:=Int.ediv_le_self _ (by omega)
          exact ⟨Wt (by omega) (by omega),Wt (by omega) (by omega)⟩
       have hr:a-a / b*b=a%b:=by rw [Int.emod_def,Int.mul_comm]
       have hr0:0<=a%b:=Int.emod_nonneg _ (by omega)
       have hr1:a%b<b:=Int.emod_lt_of_pos _ (by omega)
       refine⟨fun σ' G'=>∃ (L N:Addr) (a' x y b' u v:Int) (o4 o5:Option V),σ'=[some (.int n),some (.int p),some (.ref L),some (.ref N),o4,o5]/\Same H G'/\SqT K G' L [.int a',.int x,.int y]/\SqT K G' N [.int b',.int u,.int v]/\Eu n p a' x b' u/\(0<=b'/\b'<a'/\a'<=p)/\b'<b,?_,?_⟩
       . rintro σ' G' ⟨L',N',a',x',y',b',u',v',o4',o5',rfl,q1,q2,q3,q4,q5,q6⟩
         exact ⟨b'.toNat,by omega,L',N',a',x',y',b',u',v',o4',o5',rfl,q1,q2,q3,q4,.inr q5,rfl⟩
       refine⟨_,rfl,L,_,_,_,rfl,rfl,hL,rfl,_,rfl,N,_,_,_,rfl,rfl,hN,rfl,_,_,rfl,rfl,⟨by omega,by omega⟩,?_⟩
       refine⟨_,rfl,_,rfl,L,N,rfl,⟨_,hL⟩,⟨_,hN⟩,fun D hD=>?_⟩
       have gv:∀ (i:Nat) (e f:V),([.int a,.int x,.int y]:List V)[i]?=some e->([.int b,.int u,.int v]:List V)[i]?=some f->∃ e' f':Int,e=.int e'/\f=.int f'/\IntMulOk (a / b) f'/\i<3 ∧
        ([.int (a-a / b*b),.int (x-a / b*u),.int (y-a / b*v)]:List V)[i]?=some (.int (e'-a / b*f')):=by
        intro i e f he hf
        match i,he,hf with
        | 0,he,hf=>cases he;cases hf;exact ⟨a,b,rfl,rfl,Ai7 (by omega) (by omega),by decide,rfl⟩
        | 1,he,hf=>cases he;cases hf;exact ⟨x,u,rfl,rfl,hq.1,by decide,rfl⟩
        | 2,he,hf=>cases he;cases hf;exact ⟨y,v,rfl,rfl,hq.2,by decide,rfl⟩
        | i+3,he,hf=>simp at he
       refine Ad5 (K:=K) (a:=L) (b:=N) (xs:=[.int a,.int x,.int y]) (ys:=[.int b,.int u,.int v]) (n:=3) ⟨rfl,rfl⟩ (fun i zs τ G1=>Same G G1/\G1 D=some (.lst zs)/\zs=([.int (a-a / b*b),.int (x-a / b*u),.int (y-a / b*v)]:List V).take i/\∃ o1 o2,τ=[o1,o2,some (.int (a / b))])
        ⟨Same.new hD,Ac,rfl,none,none,rfl⟩ (fun i zs τ G1 _ ⟨s3,_⟩=>⟨s3.seqT hL,s3.seqT hN⟩) ?_ ?_
       . rintro i e f zs τ G1 pr he hf ⟨s3,hD3,hzs,o1,o2,rfl⟩ hpr
         obtain⟨e',f',rfl,rfl,hok,hi3,hnext⟩:=gv i e f he hf
         have sp:Same G1 (upd G1 pr (.tup [.int e',.int f'])):=Same.new hpr
         refine⟨pr,_,rfl,.of Ac,rfl,_,_,rfl,_,_,rfl,rfl,?_⟩
         refine⟨_,rfl,_,rfl,_,rfl,_,_,rfl,rfl,hok,_,_,rfl,rfl,?_⟩
         refine⟨sp _ _ hD3,C5 (by rw [hzs,List.length_take];omega),(s3.trans sp).turn hD,Ac,?_,_,_,rfl⟩
         rw [List.take_succ,hnext,hzs]
         rfl
       . rintro zs τ G1 ⟨s3,hD3,hzs,_⟩
         refine⟨D,_,rfl,.inl ⟨.of hD3,fun T1 hT1=>?_⟩⟩
         have s4:Same G1 (upd G1 T1 (.tup zs)):=Same.new hT1
         have hzs':zs=[.int (a-a / b*b),.int (x-a / b*u),.int (y-a / b*v)]:=hzs
         have hT2:SqT K (upd G1 T1 (.tup zs)) T1 [.int (a-a / b*b),.int (x-a / b*u),.int (y-a / b*v)]:=by rw [←hzs'];exact .of Ac
         refine⟨_,rfl,_,rfl,N,T1,b,u,v,a-a / b*b,x-a / b*u,y-a / b*v,_,_,rfl,(s2.trans s3).trans s4,(s3.trans s4).seqT hN,hT2,hE.step (a / b),?_,?_⟩
         . rw [hr];exact ⟨hr0,hr1,hbp.2⟩
         . rw [hr];exact hr1
     . have hb0:b=0:=by simpa using h1
       subst hb0
       have ha:0<a:=by omega
       have e1:=hE.last hp hn ha
       subst e1
       exact key _ _ ⟨L,N,x,y,o4,o5,rfl,s2,hL,hE.ha⟩
   rintro _ G ⟨L,N,x,y,o4,o5,rfl,s2,hL,hd⟩
   refine⟨_,rfl,L,_,_,_,rfl,rfl,hL,rfl,_,_,rfl,rfl,_,rfl,?_⟩
   refine ifN (by simp) ?_
   exact ⟨_,rfl,k L x y G s2 hL hd⟩
abbrev Eo:Stmt:=top 7
theorem Yq:FnScope ["piece"] ["piece"] (Ah Eo):=⟨rfl,rfl,rfl,by decide +kernel,rfl,by decide +kernel,by decide +kernel⟩
theorem Y9 {f:Addr}{fd:FuncData} (F:Fun K "level_of" "level_of" Eo f fd) (T:Txt K mg Ad) :FnOk P w K mg base CX0 1 f fd ["piece"] (Dh K):=by
 refine F.ok Yq (fun vs H Q E h=>?_) (fun Bo A outer s H vs Q E hr h=>?_)
 . obtain⟨x,ds,rfl,hx,k⟩:=h
   rfl
 . obtain⟨x,ds,rfl,hx,k⟩:=h
   refine⟨_,(Ai (At (An (Xs (by rfl)) (by rfl) T.n_max Da (Ab (A0 Ik (An (Ap (K:=K)) (by rfl) T.n_len PySem.boot_len (Ab (pv 0) Ag)) Aj) (Ab Aj Ag))))),?_⟩
   obtain⟨p,us,e,hq,hl⟩:∃ (p:Addr) (us:List V),x=.ref p/\(SqL K H p us\/SqT K H p us)/\us.length=ds.length:=by
    rcases hx with ⟨p,us,e,hq,r⟩|⟨p,us,e,hq,r⟩
    . exact ⟨p,us,e,.inl hq,r.length⟩
    . exact ⟨p,us,e,.inr hq,r.length⟩
   subst e
   refine⟨_,rfl,p,us,rfl,hq,_,_,rfl,rfl,_,_,rfl,?_⟩
   rw [hl]
   exact k
abbrev Ci:Stmt:=top 10
theorem Rf:FnScope ["shape","faces","j","i"] ["shape","faces"] (Ah Ci):=⟨rfl,rfl,rfl,by decide +kernel,rfl,by decide +kernel,by decide +kernel⟩
theorem Kk:(["shape","faces","j","i"]:List Str).Nodup:=by decide +kernel
theorem Rp {f:Addr}{fd:FuncData} (F:Fun K "faces_agree" "faces_agree" Ci f fd) (T:Txt K mg Ad) :FnOk P w K mg base CX0 1 f fd ["shape","faces"] (Fk K):=by
 refine F.ok Rf (fun vs H Q E h=>?_) (fun Bo A outer s H vs Q E hr h=>?_)
 . obtain⟨a,v,xs,p,rfl,hL,hv,hp4,hf,k⟩:=h
   rfl
 . obtain⟨a,v,xs,p,rfl,hL,hv,hp4,hf,k⟩:=h
   refine⟨_,(Af (C0 PassesOwn.never rfl (Cl (by rfl) T.n_range (Ab (An (Ap (K:=K)) (by rfl) T.n_len PySem.boot_len (Ab (pv 1) Ag)) Ag)) (Au (i:=2) Kk (by rfl) (by first | exact Or.inl rfl | exact Or.inr rfl)) (Ai (C0 PassesOwn.never rfl (Cl (by rfl) T.n_range (Ab (pv 2) Ag)) (Au (i:=3) Kk (by rfl) (by first | exact Or.inl rfl | exact Or.inr rfl)) (Ai (Bh (Ao Lk (Cc (Ce (K:=K)) (Cc (Bi (K:=K)) (pv 0) (Cc (Ce (K:=K)) (pv 1) (pv 2) (fun _ _=>rfl)) (fun _ _=>rfl)) (pv 3) (fun _ _=>rfl)) (Cc (Ce (K:=K)) (Cc (Bi (K:=K)) (pv 0) (Cc (Ce (K:=K)) (pv 1) (pv 3) (fun _ _=>rfl)) (fun _ _=>rfl)) (A0 Ik (pv 2) Aj) (fun _ _=>rfl)) (Ax _)) (Ai (At E1)) Aw)))))
    (Ai (At E1))),?_⟩
   obtain⟨pa,rfl,hq⟩:=hv.sq
   have hpl:(p.map V.int).length=p.length:=List.length_map ..
   refine⟨_,rfl,pa,_,rfl,.inr hq,_,rfl,by omega,by omega,?_⟩
   rw [hpl]
   refine Co (lo:=0) (n:=((p.length:Nat):Int).toNat) (fun j σ H2=>H=H2/\(∃ o2 o3,σ=[some (.ref a),some (.ref pa),o2,o3])/\∀ j' i',j'<j->i'<j'->Ny xs p j' i'=true)
    ⟨rfl,⟨none,none,rfl⟩,fun j' i' h=>absurd h (by omega)⟩ ?_ ?_
   . rintro j σ H2 hj ⟨rfl,⟨o2,o3,rfl⟩,hall⟩
     have hj':j<p.length:=by omega
     refine⟨_,rfl,_,rfl,by omega,by omega,?_⟩
     refine Co (lo:=0) (n:=((0:Int)+(j:Int)).toNat) (fun i σ H2=>H=H2/\(∃ o3,σ=[some (.ref a),some (.ref pa),some (.int (0+j)),o3])/\∀ i',i'<i->Ny xs p j i'=true)
      ⟨rfl,⟨_,rfl⟩,fun i' h=>absurd h (by omega)⟩ ?_ ?_
     . rintro i σ H2 hi ⟨rfl,⟨o3,rfl⟩,hall2⟩
       have hij:i<j:=by omega
       have mj:p.getD j 0∈p:=by rw [List.getD_eq_getElem?_getD,List.getElem?_eq_getElem hj'];exact List.getElem_mem _
       have mi:p.getD i 0∈p:=by rw [List.getD_eq_getElem?_getD,List.getElem?_eq_getElem (by omega)];exact List.getElem_mem _
       obtain⟨j0,j1,j2⟩:=hf _ mj
       obtain⟨i0,i1,i2⟩:=hf _ mi
       obtain⟨_,z,hq1,at1⟩:=TI.get (i:=(0:Int)+(j:Int)) hv (by omega) (by omega)
       cases z
       rw [show ((0:Int)+(j:Int)).toNat=j by omega] at at1
       obtain⟨_,z,hq2,at2⟩:=TI.get (i:=(0:Int)+(i:Int)) hv (by omega) (by omega)
       cases z
       rw [show ((0:Int)+(i:Int)).toNat=i by omega] at at2
       obtain⟨us1,v1,hu1,av1,tv1⟩:=LT.get hL j0 j1
       obtain⟨us2,v2,hu2,av2,tv2⟩:=LT.get hL i0 i1
       obtain⟨b1,e1,hb1,ab1⟩:=TI.get (i:=(0:Int)+(i:Int)) tv1 (by omega) (by omega)
       obtain⟨b2,e2,hb2,ab2⟩:=TI.get (i:=(0:Int)+(j:Int)-1) tv2 (by omega) (by omega)
       subst e1 e2
       rw [show ((0:Int)+(i:Int)).toNat=i by omega] at ab1
       rw [show ((0:Int)+(j:Int)-1).toNat=j-1 by omega] at ab2
       refine⟨_,rfl,_,rfl,_,rfl,pa,_,_,_,rfl,rfl,hq1,at1,a,us1,_,_,rfl,rfl,hu1,av1,_,rfl,b1,_,_,_,rfl,rfl,hb1,ab1,?_⟩
       refine⟨_,rfl,_,rfl,_,rfl,pa,_,_,_,rfl,rfl,hq2,at2,a,us2,_,_,rfl,rfl,hu2,av2,_,rfl,_,_,rfl,rfl,b2,_,_,_,rfl,rfl,hb2,ab2,?_⟩
       refine⟨rfl,_,rfl,?_⟩
       by_cases hag:(xs.getD (p.getD j 0).toNat []).getD i 0=(xs.getD (p.getD i 0).toNat []).getD (j-1) 0
       . refine ifN (eqI hag) ?_
         refine⟨rfl,⟨_,rfl⟩,fun i' h=>?_⟩
         by_cases hz:i'=i
         . subst hz;unfold Ny;exact decide_eq_true hag
         . exact hall2 i' (by omega)
       . refine ifP (neI hag) ?_
         have e2:Jk xs p=false:=by
          cases q:Jk xs p with
          | false=>rfl
          | true =>
            unfold Jk at q
            rw [List.all_eq_true] at q
            have q2:=q j (List.mem_range.mpr hj')
            rw [List.all_eq_true] at q2
            have q3:=q2 i (List.mem_range.mpr hij)
            exact absurd (of_decide_eq_true q3) hag
         rw [e2] at k
         exact k
     . rintro σ H2 ⟨rfl,⟨o3,rfl⟩,hall2⟩
       refine⟨rfl,⟨_,_,rfl⟩,fun j' i' h1 h2=>?_⟩
       by_cases hz:j'=j
       . subst hz;exact hall2 i' (by omega)
       . exact hall j' i' (by omega) h2
   . rintro σ H2 ⟨rfl,⟨o2,o3,rfl⟩,hall⟩
     have e2:Jk xs p=true:=by
      unfold Jk
      rw [List.all_eq_true]
      intro j hj
      rw [List.all_eq_true]
      intro i hi
      have:=List.mem_range.mp hj
      exact hall j i (by omega) (List.mem_range.mp hi)
     rw [e2] at k
     exact k
abbrev Go:Stmt:=top 16
theorem Ag2:FnScope ["chain","place","number","total"] ["chain","place","number"] (Ah Go):=⟨rfl,rfl,rfl,by decide +kernel,rfl,by decide +kernel,by decide +kernel⟩
theorem Ai6:(["chain","place","number","total"]:List Str).Nodup:=by decide +kernel
theorem Ah8 {f:Addr}{fd:FuncData} (F:Fun K "add_at" "add_at" Go f fd) (T:Txt K mg Ad) :FnOk P w K mg base CX0 1 f fd ["chain","place","number"] (Ic K):=by
 refine F.ok Ag2 (fun vs H Q E h=>?_) (fun Bo A outer s H vs Q E hr h=>?_)
 . obtain⟨a,ms,k,n,rfl,ha,hl,kq⟩:=h
   rfl
 . obtain⟨a,ms,k,n,rfl,ha,hl,kq⟩:=h
   have hu8:(A.deeper (PyProof.Rows.envOfC "add_at" (Ah Go) s.heap.objs.size f Bo)).units+8<cLine:=by have:=hr.units;omega
   refine⟨_,(Af (Ar (i:=3) Ai6 (by rfl) (by first | exact Or.inl rfl | exact Or.inr rfl) (A0 Il (Uf (u1 hu8) (pv 0) (pv 1) Aj ⟨by rfl,by rfl,by rfl,by rfl⟩) (pv 2)))
    (Ai (Bh (Ao Fr (pv 3) Aj (Ax _)) (Ai (Ck (As0 (pv 0) (pv 1) Wi ⟨by rfl,by rfl,by rfl,by rfl⟩))) (Ai (Pe (u1 hu8) (pv 0) (pv 1) (pv 3) (by rfl)))))),?_⟩
   refine⟨_,rfl,a,rfl,.inl ⟨_,.inl ha⟩,_,rfl,_,Ve (.inl ha),_,rfl,getI ms k,n,i4 ms k,rfl,?_⟩
   refine⟨_,rfl,rfl,_,rfl,?_⟩
   refine ite2 (fun h1=>?_) (fun h1=>?_)
   . have e:getI ms k+n=0:=by simpa using h1
     unfold addI at kq
     rw [if_pos e] at kq
     refine⟨_,rfl,a,rfl,.inl ⟨_,.inl ha⟩,_,rfl,cK ms,.inl k,ha,rfl,fun v hv=>?_,fun hn=>?_⟩
     . rw [Ap2]
       exact kq
     . rw [Xw] at hn
       have hn':Bd ms k=none:=by simpa using hn
       have e2:Oi ms k=ms:=by
        unfold Oi
        rw [List.filter_eq_self]
        intro p hp
        have:¬p.1=k:=fun z=>by
         have h3:(ms.any fun p=>decide (p.1=k))=true:=List.any_eq_true.mpr ⟨p,hp,by simpa using z⟩
         rw [i5] at h3
         obtain⟨p',hp',e'⟩:=List.mem_map.mp h3
         rw [←e'] at hn'
         have:∀ (ns:Ms),p'∈ns->Bd ns p'.1≠none:=by
          intro ns
          induction ns with
          | nil=>intro z;cases z
          | cons q ns ih =>
            intro hq
            rw [Bm]
            split
            . exact fun z=>by cases z
            . rename_i hne
              rcases List.mem_cons.mp hq with rfl | hq
              . exact absurd rfl hne
              . exact ih hq
         exact this ms hp' hn'
        simpa using this
       rw [e2,Av7 ha] at kq
       exact kq
   . have e:¬getI ms k+n=0:=by simpa using h1
     unfold addI at kq
     rw [if_neg e] at kq
     exact ⟨_,rfl,_,rfl,_,rfl,a,_,rfl,Qe ha hl,kq⟩
abbrev Mn:Stmt:=top 17
theorem Aq8:FnScope ["number","chain"] ["number","chain"] (Ah Mn):=⟨rfl,rfl,rfl,by decide +kernel,rfl,by decide +kernel,by decide +kernel⟩
theorem As7 {f:Addr}{fd:FuncData} (F:Fun K "times" "times" Mn f fd) (T:Txt K mg Ad) :FnOk P w K mg base CX0 1 f fd ["number","chain"] (Tl K):=by
 refine F.ok Aq8 (fun vs H Q E h=>?_) (fun Bo A outer s H vs Q E hr h=>?_)
 . obtain⟨n,a,ms,rfl,ha,hm,hok,k⟩:=h
   rfl
 . obtain⟨n,a,ms,rfl,ha,hm,hok,k⟩:=h
   refine⟨_,(Af (Bh (Ao Fr (pv 0) Aj (Ax _)) (Ai (At Fg)) Aw)
    (Ai (At (B4 (S2 (by rfl)) (by rfl) T.n_dict Ds (Ab (l9 (Ct (N':=["place","old","number"]) (cap:=[none,none,some 0]) (by rfl) (by kernel_rfl) (Os (pv 1)) (fun _ _ _ _=>(Ip (K:=K) (n:=2) (by rfl) (Bu (Au (i:=0) A91 (by rfl) (by first | exact Or.inl rfl | exact Or.inr rfl)) (Bu (Au (i:=1) A91 (by rfl) (by first | exact Or.inl rfl | exact Or.inr rfl)) Ii)))) (fun _ _ _ _=>Cs) (fun _ _ _ _=>(Ge (Ab (pv 0) (Ab (A0 op_mulX (pv 2) (pv 1)) Ag)))))) Ag))))),?_⟩
   refine⟨_,rfl,rfl,_,rfl,?_⟩
   refine ite2 (fun h1=>?_) (fun h1=>?_)
   . have e:n=0:=by simpa using h1
     intro D hD
     refine k D _ hD (Same.new hD) ?_
     rw [Ac]
     unfold A8
     rw [if_pos e]
     rfl
   have e:¬n=0:=by simpa using h1
   refine .inr ⟨a,cK ms,ha,fun hnd o=>?_⟩
   refine⟨_,rfl,a,o,cK ms,rfl,Ac,fun D hD=>?_⟩
   obtain⟨hD0,nDa⟩:=Lu hD
   refine Nr (d:=a) (o:=o) (kvs:=cK ms) (fun i zs τ H1=>∃ ts:List Addr,zs=ts.map V.ref/\ts.length=i/\(∀ (j:Nat) t,ts[j]?=some t->∃ p:Int × Int,ms[j]?=some p/\H1 t=some (.tup [.int p.1,.int (n*p.2)])/\t≠D)/\H1 a=some (.frz o (.dK (cK ms)))/\H1 D=some (.lst zs)/\(∀ c q,c≠a->H c=some q->H1 c=some q)/\∃ o1 o2,τ=[o1,o2,some (.int n)])
    ⟨[],rfl,rfl,(fun j t z=>by simp at z),?_,Ac,?_,none,none,rfl⟩ (fun i zs τ H1 _ ⟨_,_,_,_,e,_⟩=>e) ?_ ?_
   . rw [Ae nDa.symm];exact Ac
   . intro c q n1 e2
     rw [Ae (Al e2 hD0),Ae n1]
     exact e2
   . rintro i kk x zs τ H1 p hx ⟨ts,rfl,htl,hts,ha1,hD1,hk1,o1,o2,rfl⟩ hp
     obtain⟨q,hq,rfl,rfl⟩:=L5 hx
     have hlt:i<ms.length:=(List.getElem?_eq_some_iff.mp hq).1
     have sp:Same H1 (upd H1 p (.tup [.int q.1,.int q.2])):=Same.new hp
     refine⟨p,_,rfl,.of Ac,rfl,_,_,rfl,_,_,rfl,rfl,?_⟩
     refine⟨_,rfl,_,rfl,_,rfl,_,_,rfl,rfl,hok q (List.mem_of_getElem? hq),A7 (by simp),fun t ht=>?_⟩
     have st:=sp.trans (Same.new (o:=.tup [.int q.1,.int (n*q.2)]) ht)
     have ntD:t≠D:=(Al (sp _ _ hD1) ht).symm
     refine⟨st _ _ hD1,C5 (by rw [List.length_map];omega),ts++[t],by simp,by simp [htl],fun j t' e2=>?_,?_,Ac,fun c r n1 e2=>?_,_,_,rfl⟩
     . rw [List.getElem?_append] at e2
       split at e2
       . obtain⟨p',h1',h2',h3'⟩:=hts j t' e2
         exact ⟨p',h1',by rw [Ae h3'];exact st _ _ h2',h3'⟩
       . rename_i hj
         have hj0:j-ts.length=0:=by
          cases hz:j-ts.length with
          | zero=>rfl
          | succ m=>rw [hz] at e2;simp at e2
         rw [hj0] at e2
         have et:t=t':=by simpa using e2
         subst et
         refine⟨q,by rw [show j=i by omega];exact hq,?_,ntD⟩
         rw [Ae ntD]
         exact Ac
     . rw [Ae nDa.symm];exact st _ _ ha1
     . have:=hk1 c r n1 e2
       rw [Ae (fun z=>by rw [z,hD0] at e2;cases e2)]
       exact st _ _ this
   . rintro zs τ H1 ⟨ts,rfl,htl,hts,ha1,hD1,hk1,_⟩
     rw [Dg] at htl
     refine⟨ha1,D,ts,cK (ms.map fun p=>(p.1,n*p.2)),rfl,(by rw [Ae nDa];exact hD1),(by rw [Dg,List.length_map];exact htl),fun i t e2=>?_,fun E hE=>?_⟩
     . obtain⟨p,h1',h2',_⟩:=hts i t e2
       refine⟨(.inl p.1,.int (n*p.2)),?_,?_⟩
       . unfold cK
         rw [List.getElem?_map,List.getElem?_map,h1']
         rfl
       . have nta:t≠a:=Gs h2' ha1 (fun z=>by cases z)
         rw [Ae nta]
         exact h2'
     . have s1:Same H (upd H1 a (.dK (cK ms))):=fun c q e2=>by
        by_cases z:c=a
        . subst z
          rw [ha] at e2
          cases e2
          exact Ac
        . rw [Ae z];exact hk1 c q z e2
       refine k E _ (s1.free hE) (s1.trans (Same.new hE)) ?_
       rw [Ac]
       have hnd':nd ms:=Gr.mp hnd
       rw [Io _ [] (by rw [List.nil_append];exact Gr.mpr (Jm hnd' n))]
       unfold A8
       rw [if_neg e,List.nil_append]
abbrev Cy:Stmt:=top 28
theorem Ty:FnScope ["pieces"] ["pieces"] (Ah Cy):=⟨rfl,rfl,rfl,by decide +kernel,rfl,by decide +kernel,by decide +kernel⟩
theorem Ug {f:Addr}{fd:FuncData} (F:Fun K "check_size" "check_size" Cy f fd) (T:Txt K mg Ad) :FnOk P w K mg base CX0 1 f fd ["pieces"] (Tm K):=by
 refine F.ok Ty (fun vs H Q E h=>?_) (fun Bo A outer s H vs Q E hr h=>?_)
 . obtain⟨a,us,rfl,hS,h40,k⟩:=h
   rfl
 . obtain⟨a,us,rfl,hS,h40,k⟩:=h
   obtain⟨t_MOST_PIECES,c_MOST_PIECES⟩:=T.x_MOST_PIECES
   refine⟨_,(Ai (Bh (Ao z8 (An (Ap (K:=K)) (by rfl) T.n_len PySem.boot_len (Ab (pv 0) Ag)) (Ue (v:=.int 40) (by rfl) c_MOST_PIECES ⟨_,rfl⟩) (Ax _)) (Ai Li) Aw)),?_⟩
   refine⟨_,rfl,a,us,rfl,.inl hS,_,_,rfl,rfl,_,rfl,?_⟩
   refine ifN (by simp;omega) ?_
   exact k
abbrev Gb:Stmt:=top 36
theorem y4:FnScope ["chain","prime"] ["chain","prime"] (Ah Gb):=⟨rfl,rfl,rfl,by decide +kernel,rfl,by decide +kernel,by decide +kernel⟩
theorem Aa0 {f:Addr}{fd:FuncData} (F:Fun K "counted" "counted" Gb f fd) (T:Txt K mg Ad) :FnOk P w K mg base CX0 1 f fd ["chain","prime"] (F9 K):=by
 refine F.ok y4 (fun vs H Q E h=>?_) (fun Bo A outer s H vs Q E hr h=>?_)
 . obtain⟨a,ms,p,rfl,ha,hm,hnd0,hp,k⟩:=h
   rfl
 . obtain⟨a,ms,p,rfl,ha,hm,hnd0,hp,k⟩:=h
   refine⟨_,(Ai (At (B4 (S2 (by rfl)) (by rfl) T.n_dict Ds (Ab (l9 (Ct (N':=["place","number","prime"]) (cap:=[none,none,some 1]) (by rfl) (by kernel_rfl) (Os (pv 0)) (fun _ _ _ _=>(Ip (K:=K) (n:=2) (by rfl) (Bu (Au (i:=0) A90 (by rfl) (by first | exact Or.inl rfl | exact Or.inr rfl)) (Bu (Au (i:=1) A90 (by rfl) (by first | exact Or.inl rfl | exact Or.inr rfl)) Ii)))) (fun _ _ _ _=>(Yx (Ao Lk (A0 Bs (pv 1) (pv 2)) Aj (Ax _)))) (fun _ _ _ _=>(Ge (Ab (pv 0) (Ab (A0 Bs (pv 1) (pv 2)) Ag)))))) Ag)))),?_⟩
   refine .inr ⟨a,cK ms,ha,fun hnd o=>?_⟩
   refine⟨_,rfl,a,o,cK ms,rfl,Ac,fun D hD=>?_⟩
   obtain⟨hD0,nDa⟩:=Lu hD
   refine Nr (d:=a) (o:=o) (kvs:=cK ms) (fun i zs τ H1=>∃ ts:List Addr,zs=ts.map V.ref/\ts.length=(modI p (ms.take i)).length/\(∀ (j:Nat) t,ts[j]?=some t->∃ q:Int × Int,(modI p (ms.take i))[j]?=some q/\H1 t=some (.tup [.int q.1,.int q.2])/\t≠D)/\H1 a=some (.frz o (.dK (cK ms)))/\H1 D=some (.lst zs)/\(∀ c q,c≠a->H c=some q->H1 c=some q)/\∃ o1 o2,τ=[o1,o2,some (.int p)])
    ⟨[],rfl,rfl,(fun j t z=>by simp at z),?_,Ac,?_,none,none,rfl⟩ (fun i zs τ H1 _ ⟨_,_,_,_,e,_⟩=>e) ?_ ?_
   . rw [Ae nDa.symm];exact Ac
   . intro c q n1 e2
     rw [Ae (Al e2 hD0),Ae n1]
     exact e2
   . rintro i kk x zs τ H1 pr hx ⟨ts,rfl,htl,hts,ha1,hD1,hk1,o1,o2,rfl⟩ hpr
     obtain⟨q,hq,rfl,rfl⟩:=L5 hx
     have hlt:i<ms.length:=(List.getElem?_eq_some_iff.mp hq).1
     have mt:=mod_take (p:=p) hq
     have ml:(modI p (ms.take i)).length<=1000:=Nat.le_trans (A15 ..) (by rw [List.length_take];omega)
     have sp:Same H1 (upd H1 pr (.tup [.int q.1,.int q.2])):=Same.new hpr
     refine⟨pr,_,rfl,.of Ac,rfl,_,_,rfl,_,_,rfl,rfl,?_⟩
     refine⟨_,rfl,_,rfl,_,_,rfl,rfl,hp,rfl,_,rfl,?_⟩
     refine ite2 (fun h1=>?_) (fun h1=>?_)
     . have e:¬q.2%p=0:=by simpa using h1
       rw [if_neg e] at mt
       refine⟨_,rfl,_,rfl,_,rfl,_,_,rfl,rfl,hp,A7 (by simp),fun t ht=>?_⟩
       have st:=sp.trans (Same.new (o:=.tup [.int q.1,.int (q.2%p)]) ht)
       have ntD:t≠D:=(Al (sp _ _ hD1) ht).symm
       refine⟨st _ _ hD1,C5 (by rw [List.length_map];omega),ts++[t],by simp,by rw [mt];simp [htl],fun j t' e2=>?_,?_,Ac,fun c r n1 e2=>?_,_,_,rfl⟩
       . rcases Db e2 with ⟨hj,e2⟩|⟨hj,rfl⟩
         . obtain⟨p',h1',h2',h3'⟩:=hts j t' e2
           exact ⟨p',by rw [mt,List.getElem?_append_left (by omega)];exact h1',by rw [Ae h3'];exact st _ _ h2',h3'⟩
         . refine⟨(q.1,q.2%p),by rw [mt,hj,htl];simp,?_,ntD⟩
           rw [Ae ntD]
           exact Ac
       . rw [Ae nDa.symm];exact st _ _ ha1
       . have:=hk1 c r n1 e2
         rw [Ae (fun z=>by rw [z,hD0] at e2;cases e2)]
         exact st _ _ this
     . have e:q.2%p=0:=by simpa using h1
       rw [if_pos e] at mt
       rw [←mt] at htl hts
       refine⟨ts,rfl,htl,fun j t e2=>?_,sp _ _ ha1,sp _ _ hD1,fun c r n1 e2=>sp _ _ (hk1 c r n1 e2),_,_,rfl⟩
       obtain⟨p',h1',h2',h3'⟩:=hts j t e2
       exact ⟨p',h1',sp _ _ h2',h3'⟩
   . rintro zs τ H1 ⟨ts,rfl,htl,hts,ha1,hD1,hk1,_⟩
     rw [Dg,List.take_length] at htl hts
     refine⟨ha1,D,ts,cK (modI p ms),rfl,(by rw [Ae nDa];exact hD1),(by rw [Dg];exact htl),fun i t e2=>?_,fun E hE=>?_⟩
     . obtain⟨q,h1',h2',_⟩:=hts i t e2
       refine⟨(.inl q.1,.int q.2),?_,?_⟩
       . unfold cK
         rw [List.getElem?_map,h1']
         rfl
       . have nta:t≠a:=Gs h2' ha1 (fun z=>by cases z)
         rw [Ae nta]
         exact h2'
     . have s1:Same H (upd H1 a (.dK (cK ms))):=fun c q e2=>by
        by_cases z:c=a
        . subst z
          rw [ha] at e2
          cases e2
          exact Ac
        . rw [Ae z];exact hk1 c q z e2
       refine k E _ (s1.free hE) (s1.trans (Same.new hE)) ?_
       rw [Ac,Io _ [] (by rw [List.nil_append];exact Gr.mpr (Aw6 hnd0)),List.nil_append]
abbrev Gc:Stmt:=top 43
theorem y6:FnScope ["_law_found"] ["_law_found"] (Ah Gc):=⟨rfl,rfl,rfl,by decide +kernel,rfl,by decide +kernel,by decide +kernel⟩
theorem Aa1 {f:Addr}{fd:FuncData} (F:Fun K "_law_whole" "_law_whole" Gc f fd) (T:Txt K mg Ad) :FnOk P w K mg base CX0 1 f fd ["_law_found"] (Mf K):=by
 refine F.ok y6 (fun vs H Q E h=>?_) (fun Bo A outer s H vs Q E hr h=>?_)
 . obtain⟨x,d,rfl,hx,k⟩:=h
   rfl
 . obtain⟨x,d,rfl,hx,k⟩:=h
   refine⟨_,(Ai (At (N3 (An (D4 (K:=K)) (by rfl) T.n_isinstance A3 (Ab (pv 0) (Ab (Fp (v:=.ty "int") rfl T.n_int boot_intT rfl) Ag))) (N2 (Aw2 (An (D4 (K:=K)) (by rfl) T.n_isinstance A3 (Ab (pv 0) (Ab (Fp (v:=.ty "bool") rfl T.n_bool Nu rfl) Ag)))))))),?_⟩
   refine⟨_,rfl,_,_,d,rfl,.inl rfl,hx,_,rfl,?_⟩
   refine ite2 (fun e=>?_) (fun e=>?_)
   . refine⟨_,rfl,_,_,d,rfl,.inr (.inl rfl),hx,_,rfl,?_⟩
     have e2:Dz d=!isD "bool" d:=by unfold Dz;rw [e];rfl
     rw [e2] at k
     exact k
   . have e2:Dz d=false:=by unfold Dz;simp [e]
     rw [e2] at k
     exact k
abbrev Gd:Stmt:=top 44
theorem y7:FnScope ["_law_piece"] ["_law_piece"] (Ah Gd):=⟨rfl,rfl,rfl,by decide +kernel,rfl,by decide +kernel,by decide +kernel⟩
theorem Aa2 {f:Addr}{fd:FuncData} (F:Fun K "_law_level" "_law_level" Gd f fd) (T:Txt K mg Ad) :FnOk P w K mg base CX0 1 f fd ["_law_piece"] (Le K):=by
 refine F.ok y7 (fun vs H Q E h=>?_) (fun Bo A outer s H vs Q E hr h=>?_)
 . obtain⟨v,ds,rfl,hs,k⟩:=h
   rfl
 . obtain⟨v,ds,rfl,hs,k⟩:=h
   refine⟨_,(Ai (At (A0 Ik (An (Xs (by rfl)) (by rfl) T.n_max Da (Ab Aj (Ab (An (Ap (K:=K)) (by rfl) T.n_len PySem.boot_len (Ab (pv 0) Ag)) Ag))) Aj))),?_⟩
   obtain⟨t,us,rfl,hq,r⟩:∃ t us,v=.ref t/\(SqL K H t us\/SqT K H t us)/\us.length=ds.length:=by
    rcases hs with ⟨t,us,e,h1,h2⟩|⟨t,us,e,h1,h2⟩
    . exact ⟨t,us,e,.inl h1,h2.length⟩
    . exact ⟨t,us,e,.inr h1,h2.length⟩
   refine⟨_,rfl,t,us,rfl,hq,_,_,rfl,_,_,rfl,rfl,?_⟩
   rw [r]
   have e:(if ((ds.length:Nat):Int) > 1 then ((ds.length:Nat):Int) else 1)-1=levI ds.length:=by unfold levI;split<;>split<;>omega
   show Q (.int ((if ((ds.length:Nat):Int) > 1 then ((ds.length:Nat):Int) else 1)-1)) H
   rw [e]
   exact k
abbrev A6:Stmt:=top 46
theorem Jz:FnScope ["_law_total","_law_chain","_law_place"] ["_law_total"] (Ah A6):=⟨rfl,rfl,rfl,by decide +kernel,rfl,by decide +kernel,by decide +kernel⟩
theorem Ef:(["_law_total","_law_chain","_law_place"]:List Str).Nodup:=by decide +kernel
theorem J3 {f:Addr}{fd:FuncData} (F:Fun K "_law_without_noughts" "_law_without_noughts" A6 f fd) (T:Txt K mg Ad) :FnOk P w K mg base CX0 1 f fd ["_law_total"] (Kv K):=by
 refine F.ok Jz (fun vs H Q E h=>?_) (fun Bo A outer s H vs Q E hr h=>?_)
 . obtain⟨a,ms,rfl,ha,hm,k⟩:=h
   rfl
 . obtain⟨a,ms,rfl,ha,hm,k⟩:=h
   have hu8:(A.deeper (PyProof.Rows.envOfC "_law_without_noughts" (Ah A6) s.heap.objs.size f Bo)).units+8<cLine:=by have:=hr.units;omega
   refine⟨_,(Af (Ar (i:=1) Ef (by rfl) (by first | exact Or.inl rfl | exact Or.inr rfl) Fg)
    (Af (Pd (C0 PassesOwn.never rfl (Uc (pv 0)) (Au (i:=2) Ef (by rfl) (by first | exact Or.inl rfl | exact Or.inr rfl)) (Ai (Bh (Ao Lk (Ez (u1 hu8) (pv 0) (pv 2) (fun _ _=>rfl)) Aj (Ax _)) (Ai (Pe (u1 hu8) (pv 1) (pv 2) (Ez (u1 hu8) (pv 0) (pv 2) (fun _ _=>rfl)) (by rfl))) Aw))))
    (Ai (At (pv 1))))),?_⟩
   intro D hD
   have naD:a≠D:=Al ha hD
   refine .inr ⟨a,cK ms,(by rw [Ae naD];exact ha),fun hnd o=>?_⟩
   have hndm:nd ms:=Gr.mp hnd
   refine⟨_,rfl,a,o,cK ms,rfl,Ac,?_⟩
   refine Ox (d:=a) (o:=o) (kvs:=cK ms) (fun i σ H1=>∃ o1,σ=[some (.ref a),some (.ref D),o1]/\H1 a=some (.frz o (.dK (cK ms)))/\H1 D=some (.dK (cK (cutI (ms.take i))))/\(∀ c q,c≠a->c≠D->H c=some q->H1 c=some q))
    ⟨none,rfl,Ac,?_,fun c q n1 n2 e=>by rw [Ae n1,Ae n2];exact e⟩ (fun i σ H1 _ ⟨_,_,e,_⟩=>e) ?_ ?_
   . rw [Ae naD.symm,Ac];rfl
   . rintro i kk x σ H1 hx ⟨o1,rfl,ha1,hD1,hk1⟩
     obtain⟨q,hq,rfl,rfl⟩:=L5 hx
     have hlt:i<ms.length:=(List.getElem?_eq_some_iff.mp hq).1
     have hat:Bd ms q.1=some q.2:=Gy hndm (List.mem_of_getElem? hq)
     refine⟨_,rfl,_,rfl,a,.int q.2,rfl,Hg (.inr ⟨o,ha1⟩) hat,rfl,_,rfl,?_⟩
     have ct:=An3 hq
     refine ite2 (fun h1=>?_) (fun h1=>?_)
     . have e:¬q.2=0:=by simpa using h1
       rw [if_neg e] at ct
       have ln:(cutI (ms.take i)).length<=1000000:=by have:=Aj8 (ms.take i);rw [List.length_take] at this;omega
       refine⟨_,rfl,_,rfl,a,.int q.2,rfl,Hg (.inr ⟨o,ha1⟩) hat,_,rfl,_,rfl,D,_,rfl,Qe hD1 ln,?_⟩
       refine⟨_,rfl,?_,?_,fun c r n1 n2 e2=>?_⟩
       . rw [Ae naD];exact ha1
       . rw [Ac,put_new (A39 (Aq5 hndm hq)),ct]
       . rw [Ae n2];exact hk1 c r n1 n2 e2
     . have e:q.2=0:=by simpa using h1
       rw [if_pos e] at ct
       exact ⟨_,rfl,ha1,by rw [ct];exact hD1,hk1⟩
   . rintro σ H1 ⟨o1,rfl,ha1,hD1,hk1⟩
     rw [Dg,List.take_length] at hD1
     refine⟨ha1,_,rfl,k D _ hD (fun c q e2=>?_) (by rw [Ae naD.symm];exact hD1)⟩
     by_cases z:c=a
     . subst z
       rw [ha] at e2
       cases e2
       exact Ac
     . rw [Ae z];exact hk1 c q z (Al e2 hD) e2
abbrev Dn:Stmt:=top 50
theorem Wb:FnScope ["_law_script","_law_k"] ["_law_script","_law_k"] (Ah Dn):=⟨rfl,rfl,rfl,by decide +kernel,rfl,by decide +kernel,by decide +kernel⟩
theorem Wm {f:Addr}{fd:FuncData} (F:Fun K "_law_cell_at" "_law_cell_at" Dn f fd) (T:Txt K mg Ad) :FnOk P w K mg base CX0 1 f fd ["_law_script","_law_k"] (Fe K):=by
 refine F.ok Wb (fun vs H Q E h=>?_) (fun Bo A outer s H vs Q E hr h=>?_)
 . obtain⟨a,ns,k,rfl,hS,h0,hl,kq⟩:=h
   rfl
 . obtain⟨a,ns,k,rfl,hS,h0,hl,kq⟩:=h
   refine⟨_,(Af (Bh (Ao Oh (pv 1) (An (Ap (K:=K)) (by rfl) T.n_len PySem.boot_len (Ab (pv 0) Ag)) (Ax _)) (Ai (At (Cc (Bi (K:=K)) (pv 0) (pv 1) (fun _ _=>rfl)))) Aw)
    (Ai (At Aj))),?_⟩
   refine⟨_,rfl,_,rfl,a,_,rfl,.inl hS,_,_,rfl,rfl,_,rfl,?_⟩
   refine ite2 (fun h1=>?_) (fun h1=>?_)
   . have h2:k<(ns.length:Int):=by simpa using h1
     have e:atI (ns.map V.int) k=some (.int (N6 ns k)):=by
      obtain⟨j,rfl⟩:=Int.eq_ofNat_of_zero_le h0
      refine Cg ?_
      have hj:j<ns.length:=by omega
      rw [List.getElem?_map,List.getElem?_eq_getElem hj]
      simp [N6,hj]
     exact ⟨_,rfl,_,rfl,a,_,k,_,rfl,rfl,hS,e,kq⟩
   . have h2:¬k<(ns.length:Int):=by simpa using h1
     have e:N6 ns k=0:=by
      unfold N6
      have:ns.length<=k.toNat:=by omega
      simp [this]
     rw [e] at kq
     exact kq
abbrev Cz:Stmt:=top 51
theorem T3:FnScope ["_law_word","_law_family","_law_size","_law_faces","_law_i"] ["_law_word","_law_family"] (Ah Cz):=⟨rfl,rfl,rfl,by decide +kernel,rfl,by decide +kernel,by decide +kernel⟩
theorem Gu:(["_law_word","_law_family","_law_size","_law_faces","_law_i"]:List Str).Nodup:=by decide +kernel
theorem Uj {f:Addr}{fd:FuncData} (F:Fun K "_law_faces_by" "_law_faces_by" Cz f fd) (T:Txt K mg Ad) :FnOk P w K mg base CX0 1 f fd ["_law_word","_law_family"] (Ei K):=by
 refine F.ok T3 (fun vs H Q E h=>?_) (fun Bo A outer s H vs Q E hr h=>?_)
 . obtain⟨v,w,fam,rfl,hv,hw,k⟩:=h
   rfl
 . obtain⟨v,w,fam,rfl,hv,hw,k⟩:=h
   refine⟨_,(Af (Ar (i:=2) Gu (by rfl) (by first | exact Or.inl rfl | exact Or.inr rfl) (An (Ap (K:=K)) (by rfl) T.n_len PySem.boot_len (Ab (pv 0) Ag)))
    (Af (Bh (Ao Fr (pv 1) Aj (Ax _)) (Af (Bh (Ao Oh (pv 2) Aj (Ax _)) (Ai (At (D0 Ag))) Aw)
    (Ai (At (Ct (N':=["_law_i","_law_word"]) (cap:=[none,some 0]) (by rfl) (by kernel_rfl) (Cl (by rfl) T.n_range (Ab (pv 2) Ag)) (fun _ _ _ _=>(Au (i:=0) A97 (by rfl) (by first | exact Or.inl rfl | exact Or.inr rfl))) (fun _ _ _ _=>Cs) (fun _ _ _ _=>(A0 (Ov (K:=K)) (C6 (Jo (K:=K)) (pv 1) Fn (D8 (pv 0))) (C6 (Jo (K:=K)) (pv 1) (D8 (A0 Il (pv 0) Aj)) Fn))))))) Aw)
    (Af (Bh (Ao Fr (pv 2) Aj (Ax _)) (Ai (At (D0 Ag))) Aw)
    (Af (Bh (Ao Oh (pv 1) Aj (Ax _)) (Af (Bh (Ao Fr (pv 2) Aj (Ax _)) (Ai (At (D0 (Ab (Ge Ag) (Ab (Ge Ag) Ag))))) Aw)
    (Ai (At (Ct (N':=["_law_letter"]) (cap:=[none]) (by rfl) (by kernel_rfl) (U0 (K:=K) (pv 0)) (fun _ _ _ _=>(Au (i:=0) A98 (by rfl) (by first | exact Or.inl rfl | exact Or.inr rfl))) (fun _ _ _ _=>Cs) (fun _ _ _ _=>(Ge (Ab (pv 0) Ag))))))) Aw)
    (Af (Ar (i:=3) Gu (by rfl) (by first | exact Or.inl rfl | exact Or.inr rfl) (D0 (Ab (C6 (Jo (K:=K)) (pv 0) (D8 Aj) Fn) Ag)))
    (Af (C0 PassesOwn.never rfl (Cl (by rfl) T.n_range (Ab (A0 Ik (pv 2) Aj) Ag)) (Au (i:=4) Gu (by rfl) (by first | exact Or.inl rfl | exact Or.inr rfl)) (Ai (Ck (Lp (K:=K) PySem.F.plainAttrs_list PySem.F.slot_list_append PySem.F.type_list_append C7 (pv 3) (Ab (A0 (Ov (K:=K)) (A0 (Ov (K:=K)) (C6 (Jo (K:=K)) (pv 0) Fn (D8 (pv 4))) (Ge (Ab (A0 Bs (A0 Il (Cc (Ce (K:=K)) (pv 0) (pv 4) (fun _ _=>rfl)) (Cc (Ce (K:=K)) (pv 0) (A0 Il (pv 4) Aj) (fun _ _=>rfl))) (pv 1)) Ag))) (C6 (Jo (K:=K)) (pv 0) (D8 (A0 Il (pv 4) Aj)) Fn)) Ag)))))
    (Af (Ck (Lp (K:=K) PySem.F.plainAttrs_list PySem.F.slot_list_append PySem.F.type_list_append C7 (pv 3) (Ab (C6 (Jo (K:=K)) (pv 0) Fn (D8 (A0 Ik (pv 2) Aj))) Ag)))
    (Ai (At (pv 3)))))))))),?_⟩
   obtain⟨aw,rfl,hq⟩:=hv.sq
   have hlen:(w.map V.int).length=w.length:=List.length_map ..
   have hl4:w.length<=4:=by rcases hw with z | z | z<;>omega
   refine⟨_,rfl,aw,_,rfl,.inr hq,?_⟩
   rw [hlen]
   refine⟨_,rfl,rfl,_,rfl,?_⟩
   refine ite2 (fun h1=>?_) (fun h1=>?_)
   . have hf:fam=0:=by simpa using h1
     subst hf
     refine⟨_,rfl,_,_,rfl,rfl,_,rfl,?_⟩
     refine ite2 (fun h2=>?_) (fun h2=>?_)
     . have h3:w.length<2:=by have:(w.length:Int)<2:=by simpa using h2
                              omega
       refine⟨Nat.zero_le _,fun p hp=>?_⟩
       refine k p [] _ hp (Same.new hp) Ac ?_
       have e:Ak w 0=[]:=by unfold Ak;rw [if_pos rfl,if_pos h3]
       rw [e]
       rfl
     . have h3:¬w.length<2:=by have:¬(w.length:Int)<2:=by simpa using h2
                               omega
       have e:Ak w 0=(List.range w.length).map fun i=>w.take i++w.drop (i+1):=by unfold Ak;rw [if_pos rfl,if_neg h3]
       rw [e] at k
       refine⟨_,rfl,_,rfl,by omega,by omega,fun D hD=>?_⟩
       refine Hh (fun i ys τ H1=>i<=w.length/\Same H H1/\H1 D=some (.lst ys)/\Reps K H1 ys (((List.range i).map fun i=>w.take i++w.drop (i+1)).map tI)/\∃ o,τ=[o,some (.ref aw)])
        ⟨Nat.zero_le _,Same.new hD,Ac,rfl,none,rfl⟩ ?_ ?_
       . rintro i ys τ H1 hi ⟨hi1,s1,hD1,r1,o,rfl⟩
         have hi2:i<w.length:=by simpa using hi
         have hq1:SqT K H1 aw (w.map V.int):=s1.seqT hq
         refine⟨_,rfl,_,rfl,_,rfl,aw,_,rfl,hq1,?_,fun p1 H2 s2 q2=>?_⟩
         . rw [hlen];rintro ⟨_,z⟩
           rw [show ((0:Int)+(i:Int))=((i:Nat):Int) by omega,HT.sIx_nat] at z
           omega
         refine⟨_,rfl,_,rfl,_,_,rfl,rfl,_,rfl,aw,_,rfl,s2.seqT hq1,?_,fun p2 H3 s3 q3=>?_⟩
         . rw [hlen];rintro ⟨z,_⟩
           rw [show ((0:Int)+(i:Int)+1)=((i+1:Nat):Int) by omega,HT.sIx_nat] at z
           omega
         rw [show ((0:Int)+(i:Int))=((i:Nat):Int) by omega,Oz] at q2
         rw [show ((0:Int)+(i:Int)+1)=((i+1:Nat):Int) by omega,Lx] at q3
         refine⟨p1,p2,_,_,rfl,rfl,s3.seqT q2,q3,?_,fun p H4 s4 q4=>?_⟩
         . refine A7 ?_
           simp only [List.length_take,List.length_drop,List.length_map]
           omega
         have s14:Same H1 H4:=(s2.trans s3).trans s4
         have hD4:H4 D=some (.lst ys):=s14 _ _ hD1
         have t4:TI K H4 (.ref p) (w.take i++w.drop (i+1)):=by
          refine TI.mk ?_
          rw [List.map_append,List.map_take,List.map_drop]
          exact q4
         have r4:Reps K H4 ys (((List.range i).map fun i=>w.take i++w.drop (i+1)).map tI):=Reps.same s14 r1
         have hyl:ys.length=i:=by have:=r1.length;simpa using this
         refine⟨hD4,C5 (by omega),by omega,(s1.trans s14).turn hD,Ac,?_,_,rfl⟩
         rw [List.range_succ,List.map_append]
         exact Kz hD4 r4 t4
       . rintro ys τ H1 ⟨_,s1,hD1,r1,_⟩
         rw [show ((w.length:Int)).toNat=w.length by omega] at r1
         exact k D ys H1 hD s1 hD1 r1
   . have hf:¬fam=0:=by simpa using h1
     refine⟨_,rfl,rfl,_,rfl,?_⟩
     refine ite2 (fun h2=>?_) (fun h2=>?_)
     . have h3:w.length=0:=by simpa using h2
       refine⟨Nat.zero_le _,fun p hp=>?_⟩
       refine k p [] _ hp (Same.new hp) Ac ?_
       have e:Ak w fam=[]:=by unfold Ak;rw [if_neg hf,if_pos h3]
       rw [e]
       rfl
     have h3:¬w.length=0:=by simpa using h2
     refine⟨_,rfl,_,_,rfl,rfl,_,rfl,?_⟩
     refine ite2 (fun h4=>?_) (fun h4=>?_)
     . have h5:fam<0:=by simpa using h4
       refine⟨_,rfl,rfl,_,rfl,?_⟩
       refine ite2 (fun h6=>?_) (fun h6=>?_)
       . have h7:w.length=1:=by
          have:(w.length:Int)=1:=by simpa using h6
          omega
         have e:Ak w fam=[[],[]]:=by unfold Ak;rw [if_neg hf,if_neg h3,if_pos h5,if_pos h7]
         rw [e] at k
         refine⟨Nat.zero_le _,fun p1 hp1=>⟨Nat.zero_le _,fun p2 hp2=>⟨A7 (by simp),fun p hp=>?_⟩⟩⟩
         have s1:Same H (upd H p1 (.tup [])):=Same.new hp1
         have s2:Same (upd H p1 (.tup [])) (upd (upd H p1 (.tup [])) p2 (.tup [])):=Same.new hp2
         have s3:Same (upd (upd H p1 (.tup [])) p2 (.tup [])) (upd (upd (upd H p1 (.tup [])) p2 (.tup [])) p (.lst [.ref p1,.ref p2])):=Same.new hp
         have hp0:H p=none:=(s1.trans s2).free hp
         refine k p _ _ hp0 ((s1.trans s2).trans s3) Ac ?_
         have t1:TI K _ (.ref p1) []:=TI.mk (.of (s3 _ _ (s2 _ _ Ac)))
         have t2:TI K _ (.ref p2) []:=TI.mk (.of (s3 _ _ Ac))
         exact ⟨_,_,rfl,t1,_,_,rfl,t2,rfl⟩
       . have h7:¬w.length=1:=by
          have:¬(w.length:Int)=1:=by simpa using h6
          omega
         have e:Ak w fam=w.map fun l=>[l]:=by unfold Ak;rw [if_neg hf,if_neg h3,if_pos h5,if_neg h7]
         rw [e] at k
         refine⟨_,rfl,aw,rfl,⟨_,hq⟩,fun D hD=>?_⟩
         refine Xj (xs:=w.map V.int) (fun i ys τ H1=>i<=w.length/\Same H H1/\H1 D=some (.lst ys)/\Reps K H1 ys (((w.take i).map fun l=>[l]).map tI)/\∃ o,τ=[o])
          ⟨Nat.zero_le _,Same.new hD,Ac,rfl,none,rfl⟩ (fun i ys τ H1 _ ⟨_,s1,_⟩=>s1.seqT hq) ?_ ?_
         . rintro i x ys τ H1 hx ⟨hi1,s1,hD1,r1,o,rfl⟩
           have hi2:i<w.length:=by have:=(List.getElem?_eq_some_iff.mp hx).1;simpa using this
           have hx2:x=.int w[i]:=by
            rw [List.getElem?_map,List.getElem?_eq_getElem hi2] at hx
            simpa using hx.symm
           subst hx2
           refine⟨_,rfl,A7 (by simp),fun p hp=>?_⟩
           have s2:Same H1 (upd H1 p (.tup [.int w[i]])):=Same.new hp
           have hD4:=s2 _ _ hD1
           have t4:TI K (upd H1 p (.tup [.int w[i]])) (.ref p) [w[i]]:=TI.mk (.of Ac)
           have r4:=Reps.same s2 r1
           have hyl:ys.length=i:=by have:=r1.length;simp at this;omega
           refine⟨hD4,C5 (by omega),by omega,(s1.trans s2).turn hD,Ac,?_,_,rfl⟩
           have e2:(w.take (i+1)).map (fun l=>[l])=(w.take i).map (fun l=>[l])++[[w[i]]]:=by
            rw [List.take_succ,List.getElem?_eq_getElem hi2,List.map_append]
            rfl
           rw [e2]
           exact Kz hD4 r4 t4
         . rintro ys τ H1 ⟨_,s1,hD1,r1,_⟩
           rw [hlen,List.take_length] at r1
           exact k D ys H1 hD s1 hD1 r1
     have h5:¬fam<0:=by simpa using h4
     have hpos:0<fam:=by omega
     have e:Ak w fam=w.drop 1::((List.range (w.length-1)).map fun i=>w.take i++[(w.getD i 0+w.getD (i+1) 0)%fam]++w.drop (i+2))++[w.take (w.length-1)]:=by
      unfold Ak;rw [if_neg hf,if_neg h3,if_neg h5]
     rw [e] at k
     refine⟨_,rfl,_,rfl,aw,_,rfl,hq,?_,fun p1 H1 s1 q1=>⟨A7 (by simp),fun D hD=>?_⟩⟩
     . rw [hlen];rintro ⟨z,_⟩
       rw [show (1:Int)=((1:Nat):Int) by omega,HT.sIx_nat] at z
       omega
     rw [show (1:Int)=((1:Nat):Int) by omega,Lx] at q1
     have hD0:H D=none:=s1.free hD
     have s2:Same H1 (upd H1 D (.lst [.ref p1])):=Same.new hD
     have t1:TI K (upd H1 D (.lst [.ref p1])) (.ref p1) (w.drop 1):=by
      refine TI.mk ?_
      rw [List.map_drop]
      exact s2.seqT q1
     have hn:((w.length:Int)-1).toNat=w.length-1:=by omega
     refine⟨_,rfl,_,_,rfl,rfl,_,rfl,by omega,by omega,Co (lo:=0) (n:=((w.length:Int)-1).toNat)
      (fun i σ H2=>∃ (ys:List V) (o:Option V),σ=[some (.ref aw),some (.int fam),some (.int w.length),some (.ref D),o]/\Same H H2/\H2 D=some (.lst ys) ∧
        Reps K H2 ys ((w.drop 1::((List.range i).map fun i=>w.take i++[(w.getD i 0+w.getD (i+1) 0)%fam]++w.drop (i+2))).map tI))
      ⟨_,none,rfl,s1.trans s2,Ac,⟨_,_,rfl,t1,rfl⟩⟩ ?_ ?_⟩
     . rintro i σ H2 hi ⟨ys,o,rfl,sH,hD2,r2⟩
       rw [hn] at hi
       have hq2:SqT K H2 aw (w.map V.int):=sH.seqT hq
       have c0:((0:Int)+(i:Int))=((i:Nat):Int):=by omega
       have c1:((0:Int)+(i:Int)+1)=((i+1:Nat):Int):=by omega
       have c2:((0:Int)+(i:Int)+2)=((i+2:Nat):Int):=by omega
       have at0:atI (w.map V.int) ((0:Int)+(i:Int))=some (.int (w.getD i 0)):=by
        rw [c0]
        refine Cg ?_
        rw [List.getElem?_map,List.getElem?_eq_getElem (by omega)]
        simp [show i<w.length by omega]
       have at1:atI (w.map V.int) ((0:Int)+(i:Int)+1)=some (.int (w.getD (i+1) 0)):=by
        rw [c1]
        refine Cg ?_
        rw [List.getElem?_map,List.getElem?_eq_getElem (by omega)]
        simp [show i+1<w.length by omega]
       refine⟨_,rfl,.inl ⟨rfl,_,SqL.of hD2⟩,?_⟩
       refine⟨_,rfl,_,rfl,_,rfl,aw,_,rfl,hq2,?_,fun pa Ha sa qa=>?_⟩
       . rw [hlen];rintro ⟨_,z⟩
         rw [c0,HT.sIx_nat] at z
         omega
       rw [c0,Oz] at qa
       refine⟨_,rfl,_,rfl,aw,_,_,_,rfl,rfl,sa.seqT hq2,at0,_,rfl,_,rfl,_,_,rfl,rfl,aw,_,_,_,rfl,rfl,sa.seqT hq2,at1,_,_,rfl,rfl,_,rfl,_,_,rfl,rfl,hpos,A7 (by simp),fun pb hb=>?_⟩
       have sb:Same Ha (upd Ha pb (.tup [.int ((w.getD i 0+w.getD (i+1) 0)%fam)])):=Same.new hb
       refine⟨pa,pb,_,_,rfl,rfl,sb.seqT qa,.of Ac,A7 (by simp;omega),fun pc Hc sc qc=>?_⟩
       have sac:=(sa.trans sb).trans sc
       refine⟨_,rfl,_,rfl,_,_,rfl,rfl,_,rfl,aw,_,rfl,sac.seqT hq2,?_,fun pd Hd sd qd=>?_⟩
       . rw [hlen];rintro ⟨z,_⟩
         rw [c2,HT.sIx_nat] at z
         omega
       rw [c2,Lx] at qd
       refine⟨pc,pd,_,_,rfl,rfl,sd.seqT qc,qd,A7 (by simp;omega),fun pe He se qe=>?_⟩
       have sall:=(sac.trans sd).trans se
       have hDe:=sall _ _ hD2
       have te:TI K He (.ref pe) (w.take i++[(w.getD i 0+w.getD (i+1) 0)%fam]++w.drop (i+2)):=by
        refine TI.mk ?_
        simp only [List.map_append,List.map_take,List.map_drop,List.map_cons,List.map_nil]
        exact qe
       have hyl:ys.length=i+1:=by have:=r2.length;simpa using this
       refine⟨D,_,_,rfl,rfl,hDe,C5 (by omega),?_⟩
       refine⟨_,_,rfl,(sH.trans sall).turn hD0,Ac,?_⟩
       have e3:(w.drop 1::((List.range (i+1)).map fun i=>w.take i++[(w.getD i 0+w.getD (i+1) 0)%fam]++w.drop (i+2))) =
        (w.drop 1::((List.range i).map fun i=>w.take i++[(w.getD i 0+w.getD (i+1) 0)%fam]++w.drop (i+2)))++[w.take i++[(w.getD i 0+w.getD (i+1) 0)%fam]++w.drop (i+2)]:=by
        rw [List.range_succ,List.map_append]
        rfl
       rw [e3]
       exact Kz hDe (Reps.same sall r2) te
     . rintro σ H2 ⟨ys,o,rfl,sH,hD2,r2⟩
       rw [hn] at r2
       have hq2:SqT K H2 aw (w.map V.int):=sH.seqT hq
       have c1:((w.length:Int)-1)=((w.length-1:Nat):Int):=by omega
       refine⟨_,rfl,.inl ⟨rfl,_,SqL.of hD2⟩,_,rfl,_,rfl,_,_,rfl,rfl,_,rfl,aw,_,rfl,hq2,?_,fun pa Ha sa qa=>?_⟩
       . rw [hlen];rintro ⟨_,z⟩
         rw [c1,HT.sIx_nat] at z
         omega
       rw [c1,Oz] at qa
       have hDa:=sa _ _ hD2
       have ta:TI K Ha (.ref pa) (w.take (w.length-1)):=by
        refine TI.mk ?_
        rw [List.map_take]
        exact qa
       have hyl:ys.length=w.length:=by have:=r2.length;simp at this;omega
       refine⟨D,_,_,rfl,rfl,hDa,C5 (by omega),?_⟩
       refine⟨_,rfl,?_⟩
       exact k D _ _ hD0 ((sH.trans sa).turn hD0) Ac (Kz hDa (Reps.same sa r2) ta)
abbrev Dk:Stmt:=top 52
theorem Wa:FnScope ["_law_cell","_law_family","_law_letters","_law_size","_law_base","_law_word","_law_k"] ["_law_cell","_law_family","_law_letters"] (Ah Dk):=⟨rfl,rfl,rfl,by decide +kernel,rfl,by decide +kernel,by decide +kernel⟩
theorem Be:(["_law_cell","_law_family","_law_letters","_law_size","_law_base","_law_word","_law_k"]:List Str).Nodup:=by decide +kernel
theorem Wl {f:Addr}{fd:FuncData} (F:Fun K "_law_word_by" "_law_word_by" Dk f fd) (T:Txt K mg Ad) :FnOk P w K mg base CX0 1 f fd ["_law_cell","_law_family","_law_letters"] (Id K):=by
 refine F.ok Wa (fun vs H Q E h=>?_) (fun Bo A outer s H vs Q E hr h=>?_)
 . obtain⟨c,fam,letters,rfl,hl0,hl1,hf,k⟩:=h
   rfl
 . obtain⟨c,fam,letters,rfl,hl0,hl1,hf,k⟩:=h
   refine⟨_,(Af (Ar (i:=0) Be (by rfl) (by first | exact Or.inl rfl | exact Or.inr rfl) (A0 Bs (pv 0) Aj))
    (Af (Ar (i:=3) Be (by rfl) (by first | exact Or.inl rfl | exact Or.inr rfl) (A0 Bs (pv 0) Aj))
    (Af (Ar (i:=4) Be (by rfl) (by first | exact Or.inl rfl | exact Or.inr rfl) (pv 2))
    (Af (Bh (Ao Fr (pv 1) Aj (Ax _)) (Ai (Ar (i:=3) Be (by rfl) (by first | exact Or.inl rfl | exact Or.inr rfl) (A0 Il (pv 3) Aj))) Aw)
    (Af (Bh (PW.pt (l7 (Ao Oh (pv 1) Aj (Ax _)) (T5 (Ao Lk (pv 3) Aj (Ax _))))) (Ai (Ar (i:=3) Be (by rfl) (by first | exact Or.inl rfl | exact Or.inr rfl) Aj)) Aw)
    (Af (Bh (Ao z8 (pv 1) Aj (Ax _)) (Ai (Ar (i:=4) Be (by rfl) (by first | exact Or.inl rfl | exact Or.inr rfl) (pv 1))) Aw)
    (Af (Ar (i:=0) Be (by rfl) (by first | exact Or.inl rfl | exact Or.inr rfl) (A0 Fq (pv 0) Aj))
    (Af (Ar (i:=5) Be (by rfl) (by first | exact Or.inl rfl | exact Or.inr rfl) (Ge Ag))
    (Af (C0 PassesOwn.never rfl (Cl (by rfl) T.n_range (Ab (pv 3) Ag)) (Au (i:=6) Be (by rfl) (by first | exact Or.inl rfl | exact Or.inr rfl)) (Af (Ar (i:=5) Be (by rfl) (by first | exact Or.inl rfl | exact Or.inr rfl) (A0 (Ov (K:=K)) (pv 5) (Ge (Ab (A0 Bs (pv 0) (pv 4)) Ag))))
    (Ai (Ar (i:=0) Be (by rfl) (by first | exact Or.inl rfl | exact Or.inr rfl) (A0 Fq (pv 0) (pv 4))))))
    (Ai (At (pv 5)))))))))))),?_⟩
   have m1:0<=c%1000000%4:=Int.emod_nonneg _ (by decide)
   have m2:c%1000000%4<4:=Int.emod_lt_of_pos _ (by decide)
   refine⟨_,rfl,_,_,rfl,rfl,(by show (0:Int)<1000000;decide),?_⟩
   refine⟨_,rfl,_,_,rfl,rfl,(by show (0:Int)<4;decide),?_⟩
   refine⟨_,rfl,?_⟩
   have fork:(fam=0)\/(fam<0/\c%1000000%4=1)\/(fam<0/\¬c%1000000%4=1)\/0<fam:=by omega
   have nofam:¬fam=0->¬(decide (V.int fam=V.int 0)=true):=fun z q=>z (by simpa using q)
   have isfam:fam=0->decide (V.int fam=V.int 0)=true:=fun z=>by simp [z]
   have hb0:0<letters:=hl0
   have hb1:letters<1073741824:=by omega
   rcases fork with hz|⟨hz,h1⟩|⟨hz,h1⟩ | hz
   . refine⟨_,rfl,rfl,_,rfl,?_⟩
     refine ifP (isfam hz) ?_
     refine⟨_,rfl,_,_,rfl,rfl,?_⟩
     refine⟨_,rfl,_,_,rfl,rfl,_,rfl,?_⟩
     refine ifN (by simp;omega) ?_
     refine ifN (by simp) ?_
     refine⟨_,rfl,_,_,rfl,rfl,_,rfl,?_⟩
     refine ifN (by simp;omega) ?_
     have hW:∀ w:List Int,w.length=(c%1000000%4+1).toNat->Word fam w:=fun w e=>.inl ⟨hz,by omega,by omega⟩
     refine⟨_,rfl,_,_,rfl,rfl,⟨by decide,by decide⟩,Nat.zero_le _,fun p0 hp0=>?_⟩
     refine⟨_,rfl,_,rfl,by omega,by omega,?_⟩
     refine Co (lo:=0) (n:=(c%1000000%4+1:Int).toNat)
      (fun i σ H2=>∃ (c':Int) (v:V) (o:Option V) (w:List Int),σ=[some (.int c'),some (.int fam),some (.int letters),some (.int (c%1000000%4+1)),some (.int letters),some v,o]/\Same H H2/\TI K H2 v w/\w.length=i)
      ⟨_,_,none,[],rfl,Same.new hp0,TI.mk (.of Ac),rfl⟩ ?_ ?_
     . rintro i σ H2 hi ⟨c',v,o,w,rfl,s2,tv,hwl⟩
       obtain⟨a,rfl,hqa⟩:=tv.sq
       refine⟨_,rfl,_,rfl,_,rfl,_,_,rfl,rfl,hb0,A7 (by simp),fun pt hpt=>?_⟩
       have s3:Same H2 (upd H2 pt (.tup [.int (c'%letters)])):=Same.new hpt
       refine⟨a,pt,_,_,rfl,rfl,s3.seqT hqa,.of Ac,A7 (by simp;omega),fun p3 H3 s4 q3=>?_⟩
       refine⟨_,rfl,_,rfl,_,_,rfl,rfl,⟨hb0,hb1⟩,?_⟩
       refine⟨_,_,_,w++[c'%letters],rfl,(s2.trans s3).trans s4,TI.mk ?_,by simp [hwl]⟩
       rw [List.map_append]
       exact q3
     . rintro σ H2 ⟨c',v,o,w,rfl,s2,tv,hwl⟩
       exact ⟨_,rfl,k v H2 w s2 tv (hW w hwl)⟩
   . refine⟨_,rfl,rfl,_,rfl,?_⟩
     refine ifN (nofam (by omega)) ?_
     refine⟨_,rfl,_,_,rfl,rfl,_,rfl,?_⟩
     refine ifP (by simp;omega) ?_
     refine⟨_,rfl,rfl,_,rfl,?_⟩
     refine ifN (eqI h1) ?_
     refine⟨_,rfl,_,_,rfl,rfl,_,rfl,?_⟩
     refine ifN (by simp;omega) ?_
     have hW:∀ w:List Int,w.length=(c%1000000%4).toNat->Word fam w:=fun w e=>.inr (.inl ⟨hz,by omega⟩)
     refine⟨_,rfl,_,_,rfl,rfl,⟨by decide,by decide⟩,Nat.zero_le _,fun p0 hp0=>?_⟩
     refine⟨_,rfl,_,rfl,by omega,by omega,?_⟩
     refine Co (lo:=0) (n:=(c%1000000%4:Int).toNat)
      (fun i σ H2=>∃ (c':Int) (v:V) (o:Option V) (w:List Int),σ=[some (.int c'),some (.int fam),some (.int letters),some (.int (c%1000000%4)),some (.int letters),some v,o]/\Same H H2/\TI K H2 v w/\w.length=i)
      ⟨_,_,none,[],rfl,Same.new hp0,TI.mk (.of Ac),rfl⟩ ?_ ?_
     . rintro i σ H2 hi ⟨c',v,o,w,rfl,s2,tv,hwl⟩
       obtain⟨a,rfl,hqa⟩:=tv.sq
       refine⟨_,rfl,_,rfl,_,rfl,_,_,rfl,rfl,hb0,A7 (by simp),fun pt hpt=>?_⟩
       have s3:Same H2 (upd H2 pt (.tup [.int (c'%letters)])):=Same.new hpt
       refine⟨a,pt,_,_,rfl,rfl,s3.seqT hqa,.of Ac,A7 (by simp;omega),fun p3 H3 s4 q3=>?_⟩
       refine⟨_,rfl,_,rfl,_,_,rfl,rfl,⟨hb0,hb1⟩,?_⟩
       refine⟨_,_,_,w++[c'%letters],rfl,(s2.trans s3).trans s4,TI.mk ?_,by simp [hwl]⟩
       rw [List.map_append]
       exact q3
     . rintro σ H2 ⟨c',v,o,w,rfl,s2,tv,hwl⟩
       exact ⟨_,rfl,k v H2 w s2 tv (hW w hwl)⟩
   . refine⟨_,rfl,rfl,_,rfl,?_⟩
     refine ifN (nofam (by omega)) ?_
     refine⟨_,rfl,_,_,rfl,rfl,_,rfl,?_⟩
     refine ifP (by simp;omega) ?_
     refine⟨_,rfl,rfl,_,rfl,?_⟩
     refine ifP (neI h1) ?_
     refine⟨_,rfl,_,_,rfl,rfl,_,rfl,?_⟩
     refine ifN (by simp;omega) ?_
     have hW:∀ w:List Int,w.length=(3:Int).toNat->Word fam w:=fun w e=>.inr (.inl ⟨hz,.inr (.inr e)⟩)
     refine⟨_,rfl,_,_,rfl,rfl,⟨by decide,by decide⟩,Nat.zero_le _,fun p0 hp0=>?_⟩
     refine⟨_,rfl,_,rfl,by omega,by omega,?_⟩
     refine Co (lo:=0) (n:=(3:Int).toNat)
      (fun i σ H2=>∃ (c':Int) (v:V) (o:Option V) (w:List Int),σ=[some (.int c'),some (.int fam),some (.int letters),some (.int (3)),some (.int letters),some v,o]/\Same H H2/\TI K H2 v w/\w.length=i)
      ⟨_,_,none,[],rfl,Same.new hp0,TI.mk (.of Ac),rfl⟩ ?_ ?_
     . rintro i σ H2 hi ⟨c',v,o,w,rfl,s2,tv,hwl⟩
       obtain⟨a,rfl,hqa⟩:=tv.sq
       refine⟨_,rfl,_,rfl,_,rfl,_,_,rfl,rfl,hb0,A7 (by simp),fun pt hpt=>?_⟩
       have s3:Same H2 (upd H2 pt (.tup [.int (c'%letters)])):=Same.new hpt
       refine⟨a,pt,_,_,rfl,rfl,s3.seqT hqa,.of Ac,A7 (by simp;omega),fun p3 H3 s4 q3=>?_⟩
       refine⟨_,rfl,_,rfl,_,_,rfl,rfl,⟨hb0,hb1⟩,?_⟩
       refine⟨_,_,_,w++[c'%letters],rfl,(s2.trans s3).trans s4,TI.mk ?_,by simp [hwl]⟩
       rw [List.map_append]
       exact q3
     . rintro σ H2 ⟨c',v,o,w,rfl,s2,tv,hwl⟩
       exact ⟨_,rfl,k v H2 w s2 tv (hW w hwl)⟩
   . refine⟨_,rfl,rfl,_,rfl,?_⟩
     refine ifN (nofam (by omega)) ?_
     refine⟨_,rfl,_,_,rfl,rfl,_,rfl,?_⟩
     refine ifN (by simp;omega) ?_
     refine ifN (by simp) ?_
     refine⟨_,rfl,_,_,rfl,rfl,_,rfl,?_⟩
     refine ifP (by simp;omega) ?_
     refine⟨_,rfl,?_⟩
     have hW:∀ w:List Int,w.length=(c%1000000%4).toNat->Word fam w:=fun w e=>.inr (.inr ⟨hz,by omega⟩)
     have hb0:0<fam:=hz
     have hb1:fam<1073741824:=by omega
     refine⟨_,rfl,_,_,rfl,rfl,⟨by decide,by decide⟩,Nat.zero_le _,fun p0 hp0=>?_⟩
     refine⟨_,rfl,_,rfl,by omega,by omega,?_⟩
     refine Co (lo:=0) (n:=(c%1000000%4:Int).toNat)
      (fun i σ H2=>∃ (c':Int) (v:V) (o:Option V) (w:List Int),σ=[some (.int c'),some (.int fam),some (.int letters),some (.int (c%1000000%4)),some (.int fam),some v,o]/\Same H H2/\TI K H2 v w/\w.length=i)
      ⟨_,_,none,[],rfl,Same.new hp0,TI.mk (.of Ac),rfl⟩ ?_ ?_
     . rintro i σ H2 hi ⟨c',v,o,w,rfl,s2,tv,hwl⟩
       obtain⟨a,rfl,hqa⟩:=tv.sq
       refine⟨_,rfl,_,rfl,_,rfl,_,_,rfl,rfl,hb0,A7 (by simp),fun pt hpt=>?_⟩
       have s3:Same H2 (upd H2 pt (.tup [.int (c'%fam)])):=Same.new hpt
       refine⟨a,pt,_,_,rfl,rfl,s3.seqT hqa,.of Ac,A7 (by simp;omega),fun p3 H3 s4 q3=>?_⟩
       refine⟨_,rfl,_,rfl,_,_,rfl,rfl,⟨hb0,hb1⟩,?_⟩
       refine⟨_,_,_,w++[c'%fam],rfl,(s2.trans s3).trans s4,TI.mk ?_,by simp [hwl]⟩
       rw [List.map_append]
       exact q3
     . rintro σ H2 ⟨c',v,o,w,rfl,s2,tv,hwl⟩
       exact ⟨_,rfl,k v H2 w s2 tv (hW w hwl)⟩
abbrev Bl:Stmt:=top 3
theorem Ml:FnScope ["thing","bound"] ["thing","bound"] (Ah Bl):=⟨rfl,rfl,rfl,by decide +kernel,rfl,by decide +kernel,by decide +kernel⟩
theorem Mt {f:Addr}{fd:FuncData} (F:Fun K "is_whole_below" "is_whole_below" Bl f fd) (T:Txt K mg Ad) (Et:Has P w K mg base "is_whole" ["thing"] 1 (Ew K)):FnOk P w K mg base CX0 2 f fd ["thing","bound"] (Bv K):=by
 refine F.ok Ml (fun vs H Q E h=>?_) (fun Bo A outer s H vs Q E hr h=>?_)
 . obtain⟨x,d,b,rfl,hx,k⟩:=h
   rfl
 . obtain⟨x,d,b,rfl,hx,k⟩:=h
   refine⟨_,(Ai (At (N3 (Am Et hr (by rfl) (Ab (pv 0) Ag)) (N2 (m3 A80 Oh Aj (pv 0) (pv 1)))))),?_⟩
   refine⟨_,rfl,x,d,rfl,hx,_,rfl,?_⟩
   refine ite2 (fun e=>?_) (fun e=>?_)
   . obtain⟨i,rfl⟩:=u5 e
     cases (show x=.int i from hx)
     refine⟨_,rfl,_,_,rfl,rfl,_,rfl,?_⟩
     refine ite2 (fun e1=>?_) (fun e1=>?_)
     . refine⟨_,rfl,_,_,rfl,rfl,?_⟩
       have e2:Qy (.int i) b=decide (i<b):=by show (decide (0<=i)&&decide (i<b))=_;rw [e1];rfl
       rw [e2] at k
       exact k
     . have e2:Qy (.int i) b=false:=by show (decide (0<=i)&&decide (i<b))=_;simp at e1;simp;omega
       rw [e2] at k
       exact k
   . have e2:Qy d b=false:=by
      cases d<;>first | rfl | (exfalso;exact e rfl)
     rw [e2] at k
     exact k
abbrev Sq:Stmt:=top 15
theorem Ay6:FnScope ["one","other","told","place","number"] ["one","other"] (Ah Sq):=⟨rfl,rfl,rfl,by decide +kernel,rfl,by decide +kernel,by decide +kernel⟩
theorem Zu:(["one","other","told","place","number"]:List Str).Nodup:=by decide +kernel
theorem A03 {f:Addr}{fd:FuncData} (F:Fun K "plus" "plus" Sq f fd) (T:Txt K mg Ad) (Jr:Has P w K mg base "add_at" ["chain","place","number"] 1 (Ic K)):FnOk P w K mg base CX0 2 f fd ["one","other"] (Yd K):=by
 refine F.ok Ay6 (fun vs H Q E h=>?_) (fun Bo A outer s H vs Q E hr h=>?_)
 . obtain⟨a,b,ms,ns,rfl,ha,hb,hm,hn,k⟩:=h
   rfl
 . obtain⟨a,b,ms,ns,rfl,ha,hb,hm,hn,k⟩:=h
   refine⟨_,(Af (Ar (i:=2) Zu (by rfl) (by first | exact Or.inl rfl | exact Or.inr rfl) (B4 Nt (by rfl) T.n_dict Ds (Ab (pv 0) Ag)))
    (Af (Pd (C0 PassesOwn.never rfl (Os (pv 1)) (Ip (K:=K) (n:=2) (by rfl) (Bu (Au (i:=3) Zu (by rfl) (by first | exact Or.inl rfl | exact Or.inr rfl)) (Bu (Au (i:=4) Zu (by rfl) (by first | exact Or.inl rfl | exact Or.inr rfl)) Ii))) (Ai (Ck (Am Jr hr (by rfl) (Ab (pv 2) (Ab (pv 3) (Ab (pv 4) Ag))))))))
    (Ai (At (pv 2))))),?_⟩
   refine⟨_,rfl,a,cK ms,rfl,ha,fun D hD=>?_⟩
   have nDb:b≠D:=Al hb hD
   refine .inr ⟨b,cK ns,(by rw [Ae nDb];exact hb),fun hnd o=>?_⟩
   refine⟨_,rfl,b,o,cK ns,rfl,Ac,?_⟩
   refine W7 (d:=b) (o:=o) (kvs:=cK ns) (fun i σ H1=>∃ o1 o2,σ=[some (.ref a),some (.ref b),some (.ref D),o1,o2]/\H1 b=some (.frz o (.dK (cK ns)))/\H1 D=some (.dK (cK (Do ms (ns.take i))))/\(∀ c q,c≠b->c≠D->H c=some q->H1 c=some q))
    ⟨none,none,rfl,Ac,?_,?_⟩ (fun i σ H1 _ ⟨_,_,_,e,_⟩=>e) ?_ ?_
   . rw [Ae nDb.symm,Ac]
     rfl
   . intro c q n1 n2 e
     rw [Ae n1,Ae n2]
     exact e
   . rintro i kk x σ H1 p hx ⟨o1,o2,rfl,hb1,hD1,hk1⟩ hp
     obtain⟨q,hq,rfl,rfl⟩:=L5 hx
     have npb:b≠p:=Al hb1 hp
     have npD:D≠p:=Al hD1 hp
     have hlt:i<ns.length:=(List.getElem?_eq_some_iff.mp hq).1
     refine⟨p,_,rfl,.of Ac,rfl,_,_,rfl,_,_,rfl,rfl,?_⟩
     refine⟨_,rfl,_,rfl,_,rfl,D,Do ms (ns.take i),q.1,q.2,rfl,(by rw [Ae npD];exact hD1),?_,?_⟩
     . have:=Ou (ns.take i) ms
       rw [List.length_take] at this
       omega
     . refine⟨_,_,rfl,?_,?_,fun c r n1 n2 e=>?_⟩
       . rw [Ae nDb,Ae npb];exact hb1
       . rw [Ac,Ah0 hq]
       . rw [Ae n2,Ae (Al (hk1 c r n1 n2 e) hp)]
         exact hk1 c r n1 n2 e
   . rintro σ H1 ⟨o1,o2,rfl,hb1,hD1,hk1⟩
     rw [Dg,List.take_length] at hD1
     refine⟨hb1,_,rfl,k D _ hD (fun c q e=>?_) (by rw [Ae nDb.symm];exact hD1)⟩
     by_cases z:c=b
     . subst z
       rw [hb] at e
       cases e
       exact Ac
     . rw [Ae z]
       exact hk1 c q z (Al e hD) e
abbrev Dj:Stmt:=top 31
theorem V9:FnScope ["chain","faces","number","i","face"] ["chain","faces","number"] (Ah Dj):=⟨rfl,rfl,rfl,by decide +kernel,rfl,by decide +kernel,by decide +kernel⟩
theorem N4:(["chain","faces","number","i","face"]:List Str).Nodup:=by decide +kernel
theorem Wk {f:Addr}{fd:FuncData} (F:Fun K "add_faces" "add_faces" Dj f fd) (T:Txt K mg Ad) (Jr:Has P w K mg base "add_at" ["chain","place","number"] 1 (Ic K)):FnOk P w K mg base CX0 2 f fd ["chain","faces","number"] (Fd K):=by
 refine F.ok V9 (fun vs H Q E h=>?_) (fun Bo A outer s H vs Q E hr h=>?_)
 . obtain⟨a,v,ms,fs,n,rfl,ha,hv,hm,kq⟩:=h
   rfl
 . obtain⟨a,v,ms,fs,n,rfl,ha,hv,hm,kq⟩:=h
   refine⟨_,(Ai (C0 PassesOwn.never rfl (Ar7 (K:=K) (by rfl) T.n_enumerate (Ab (pv 1) Ag)) (Ip (K:=K) (n:=2) (by rfl) (Bu (Au (i:=3) N4 (by rfl) (by first | exact Or.inl rfl | exact Or.inr rfl)) (Bu (Au (i:=4) N4 (by rfl) (by first | exact Or.inl rfl | exact Or.inr rfl)) Ii))) (Ai (Ck (Am Jr hr (by rfl) (Ab (pv 0) (Ab (pv 4) (Ab (Ar9 (Ao Fr (A0 Bs (pv 3) Aj) Aj (Ax _)) (pv 2) (Ah4 V0 (pv 2))) Ag)))))))),?_⟩
   obtain⟨af,rfl,sq⟩:=TI.sq hv
   refine⟨_,rfl,af,rfl,⟨_,sq⟩,Al8 (K:=K) (a:=af) (xs:=fs.map V.int) (fun i σ H1=>∃ o1 o2,σ=[some (.ref a),some (.ref af),some (.int n),o1,o2]/\Kh a H H1/\H1 a=some (.dK (cK (Lb ms fs n i))))
    ⟨none,none,rfl,fun _ _ _ e=>e,ha⟩ (fun i σ H1 _ ⟨_,_,_,s1,_⟩=>SqT.x s1 ha sq) ?_ ?_⟩
   . rintro i x σ H1 p hx ⟨o1,o2,rfl,s1,ha1⟩ hp
     have hi:i<fs.length:=by have:=(List.getElem?_eq_some_iff.mp hx).1;simpa using this
     have hxv:x=.int (fs.getD i 0):=by
      rw [List.getElem?_map,List.getElem?_eq_getElem hi] at hx
      rw [List.getD_eq_getElem?_getD,List.getElem?_eq_getElem hi]
      simpa using hx.symm
     subst hxv
     have sp:Same H1 (upd H1 p (.tup [.int i,.int (fs.getD i 0)])):=Same.new hp
     have ha2:=sp _ _ ha1
     have hl:=Px ms fs n i
     refine⟨p,_,rfl,.of Ac,rfl,_,_,rfl,_,_,rfl,rfl,?_⟩
     have fin:∀ m,m=sgn n i->Ic K [.ref a,.int (fs.getD i 0),.int m] (upd H1 p (.tup [.int i,.int (fs.getD i 0)])) (fun v H'=>∃ o1 o2,([some (.ref a),some (.ref af),some (.int n),some (.int (i:Int)),some (.int (fs.getD i 0))]:St)=[some (.ref a),some (.ref af),some (.int n),o1,o2]/\Kh a H H'/\H' a=some (.dK (cK (Lb ms fs n (i+1))))) E0:=by
      intro m hm2
      subst hm2
      refine⟨a,Lb ms fs n i,_,_,rfl,ha2,by omega,_,_,rfl,fun c q n1 e=>?_,Ac⟩
      rw [Ae n1]
      exact sp _ _ (s1 c q n1 e)
     refine⟨_,rfl,_,rfl,_,rfl,_,_,rfl,rfl,(by show (0:Int)<2;decide),rfl,_,rfl,?_⟩
     refine ite2 (fun h1=>?_) (fun h1=>?_)
     . have h2:(i:Int)%2=0:=by simpa using h1
       exact ⟨_,rfl,fin n (by unfold sgn;rw [if_pos h2])⟩
     . have h2:¬(i:Int)%2=0:=by simpa using h1
       exact ⟨_,rfl,_,rfl,fin (-n) (by unfold sgn;rw [if_neg h2])⟩
   . rintro σ H1 ⟨o1,o2,rfl,s1,ha1⟩
     rw [List.length_map] at ha1
     exact kq H1 s1 ha1
abbrev Ch:Stmt:=top 35
theorem Re:FnScope ["number","prime"] ["number","prime"] (Ah Ch):=⟨rfl,rfl,rfl,by decide +kernel,rfl,by decide +kernel,by decide +kernel⟩
theorem Ro {f:Addr}{fd:FuncData} (F:Fun K "turned_over" "turned_over" Ch f fd) (T:Txt K mg Ad) (D9:Has P w K mg base "shared_divisor" ["one","other"] 1 (Yf K)):FnOk P w K mg base CX0 2 f fd ["number","prime"] (Tn K):=by
 refine F.ok Re (fun vs H Q E h=>?_) (fun Bo A outer s H vs Q E hr h=>?_)
 . obtain⟨n,p,rfl,hp,hp98,hn,k⟩:=h
   rfl
 . obtain⟨n,p,rfl,hp,hp98,hn,k⟩:=h
   refine⟨_,(Ai (At (A0 Bs (Cc (Ce (K:=K)) (Am D9 hr (by rfl) (Ab (pv 0) (Ab (pv 1) Ag))) Aj (fun _ _=>rfl)) (pv 1)))),?_⟩
   have hp2:=hp.two
   refine⟨_,rfl,_,rfl,n,p,rfl,hp,hp98,hn,fun L x y H' s' hL hd=>?_⟩
   refine⟨L,_,_,_,rfl,rfl,hL,rfl,_,rfl,_,_,rfl,rfl,(by show (0:Int)<p;omega),?_⟩
   obtain⟨q1,q2,q3⟩:=As5 hp2 hd
   exact k _ H' s' q1 q2 q3
abbrev Cb:Stmt:=top 45
theorem T4:FnScope ["_law_shape","_law_level_here","_law_thing","_law_place"] ["_law_shape","_law_level_here","_law_thing"] (Ah Cb):=⟨rfl,rfl,rfl,by decide +kernel,rfl,by decide +kernel,by decide +kernel⟩
theorem Uz:(["_law_shape","_law_level_here","_law_thing","_law_place"]:List Str).Nodup:=by decide +kernel
theorem Uk {f:Addr}{fd:FuncData} (F:Fun K "_law_chain_is" "_law_chain_is" Cb f fd) (T:Txt K mg Ad) (Ls:Has P w K mg base "_law_whole" ["_law_found"] 1 (Mf K)) (Gh:Has P w K mg base "_law_level" ["_law_piece"] 1 (Le K)):FnOk P w K mg base CX0 2 f fd ["_law_shape","_law_level_here","_law_thing"] (Kw K):=by
 refine F.ok T4 (fun vs H Q E h=>?_) (fun Bo A outer s H vs Q E hr h=>?_)
 . obtain⟨a,xs,k,x,t,rfl,hL,hT,hO,kq⟩:=h
   rfl
 . obtain⟨a,xs,k,x,t,rfl,hL,hT,hO,kq⟩:=h
   have hu8:(A.deeper (PyProof.Rows.envOfC "_law_chain_is" (Ah Cb) s.heap.objs.size f Bo)).units+8<cLine:=by have:=hr.units;omega
   refine⟨_,(Af (Bh (Df (De (An (Xv (K:=K)) (by rfl) T.n_isinstance A3 (Ab (pv 2) (Ab (Fp (v:=.ty "dict") rfl T.n_dict Ds rfl) Ag))))) (Ai (At E1)) Aw)
    (Af (Pd (C0 PassesOwn.never rfl (Ar6 (pv 2)) (Au (i:=3) Uz (by rfl) (by first | exact Or.inl rfl | exact Or.inr rfl)) (Af (Bh (PW.pt (Lh (Df (De (Am Ls hr (by rfl) (Ab (pv 3) Ag)))) (Lh (Ao Oh (pv 3) Aj (Ax _)) (Ih (Ao A83 (pv 3) (An (Ap (K:=K)) (by rfl) T.n_len PySem.boot_len (Ab (pv 0) Ag)) (Ax _)))))) (Ai (At E1)) Aw)
    (Ai (Bh (PW.pt (Lh (Ao Lk (Am Gh hr (by rfl) (Ab (Cc (Bi (K:=K)) (pv 0) (pv 3) (fun _ _=>rfl)) Ag)) (pv 1) (Ax _)) (Lh (Df (De (Am Ls hr (by rfl) (Ab (Ez (u1 hu8) (pv 2) (pv 3) (fun _ _=>rfl)) Ag)))) (Ih (Ao Fr (Ez (u1 hu8) (pv 2) (pv 3) (fun _ _=>rfl)) Aj (Ax _)))))) (Ai (At E1)) Aw)))))
    (Ai (At E1)))),?_⟩
   cases t with
   | data d =>
     refine⟨_,rfl,x,"dict",rfl,.inr (.inr (.inr (.inr (.inr rfl)))),.inl ⟨.d (vD x),hT.1.rep,_,rfl,?_⟩⟩
     rw [k9 hT.1]
     refine ifP rfl ?_
     exact kq _ (Same.refl _)
   | lst =>
     obtain⟨b,us,rfl,hb⟩:=hT
     refine⟨_,rfl,_,"dict",rfl,.inr (.inr (.inr (.inr (.inr rfl)))),.inr (.inr ⟨b,us,rfl,hb,_,rfl,?_⟩)⟩
     refine ifP (by decide) ?_
     exact kq _ (Same.refl _)
   | odd kvs =>
     obtain⟨b,rfl,hOd,hm,hv⟩:=hT
     refine⟨_,rfl,_,"dict",rfl,.inr (.inr (.inr (.inr (.inr rfl)))),.inr (.inl ⟨b,kvs,rfl,hOd,_,rfl,?_⟩)⟩
     refine ifN (by decide) ?_
     refine Ia (fun σ' H'=>σ'=[some (.ref a),some (.int k),some (.ref b),none]/\H=H') ?_ fun key0=>key0 _ _ ⟨rfl,rfl⟩
     rintro _ _ ⟨rfl,rfl⟩
     refine Aq (fun σ' H'=>∃ o3,σ'=[some (.ref a),some (.int k),some (.ref b),o3]/\H=H'/\Gj xs k (.odd kvs)=true) ?_ fun key=>?_
     rotate_left
     . obtain⟨hsys,ob,hXO,hOb⟩:=hOd
       refine .inl ⟨_,rfl,.inr ⟨b,ob,kvs,rfl,hsys,hXO,hOb,?_⟩⟩
       refine Al7 (d:=b) (o:=ob) (kvs:=kvs) (fun i σ G=>∃ o3,σ=[some (.ref a),some (.int k),some (.ref b),o3]/\H=G/\i=0) ⟨none,rfl,rfl,rfl⟩ (fun i σ G _ ⟨_,_,e,_⟩=>by rw [←e];exact hXO) ?_ ?_
       . rintro i kk v σ G hx ⟨o3,rfl,rfl,rfl⟩
         have hw:=hO kvs rfl _ (List.mem_of_getElem? hx)
         refine⟨_,rfl,kk,vD kk,rfl,(hv _ (List.mem_of_getElem? hx)).1.rep,_,rfl,?_⟩
         rw [hw]
         refine ifP rfl ?_
         have hc:Gj xs k (.odd kvs)=false:=by
          show (kvs.all fun p=>E2 xs k (vD p.1) (vD p.2))=false
          exact List.all_eq_false.mpr ⟨_,List.mem_of_getElem? hx,by rw [Wj hw];decide⟩
         have q:=kq _ (Same.refl H)
         rw [hc] at q
         exact q
       . rintro σ G ⟨o3,rfl,rfl,e⟩
         refine key _ _ ⟨o3,rfl,rfl,?_⟩
         cases kvs with
         | nil=>rfl
         | cons p r=>cases e
     rintro _ _ ⟨o3,rfl,rfl,e⟩
     have q:=kq _ (Same.refl H)
     rw [e] at q
     exact q
   | dk kvs =>
     obtain⟨b,rfl,hb,hm,hv⟩:=hT
     refine⟨_,rfl,_,"dict",rfl,.inr (.inr (.inr (.inr (.inr rfl)))),.inl ⟨.dic,⟨b,kvs,rfl,.inl hb⟩,_,rfl,?_⟩⟩
     refine ifN (by decide) ?_
     have back:∀ G:Hp,(∀ c q,c≠b->H c=some q->G c=some q)->Same H (upd G b (.dK kvs)):=fun G h c q e=>by
      by_cases z:c=b
      . subst z
        rw [hb] at e
        cases e
        exact Ac
      . rw [Ae z];exact h c q z e
     refine Ia (fun σ' H'=>σ'=[some (.ref a),some (.int k),some (.ref b),none]/\H=H') ?_ fun key0=>key0 _ _ ⟨rfl,rfl⟩
     rintro _ _ ⟨rfl,rfl⟩
     refine Aq (fun σ' H'=>∃ o3,σ'=[some (.ref a),some (.int k),some (.ref b),o3]/\Same H H'/\Gj xs k (.dk kvs)=true) ?_ fun key=>?_
     rotate_left
     . refine .inr ⟨b,kvs,hb,fun hnd o=>?_⟩
       refine⟨_,rfl,.inl ⟨b,o,kvs,rfl,Ac,?_⟩⟩
       have hLF:LT K (upd H b (.frz o (.dK kvs))) (.ref a) xs:=Rep.x (fun c r n e=>by rw [Ae n];exact e) hb hL
       have hbF:upd H b (.frz o (.dK kvs)) b=some (.frz o (.dK kvs)):=Ac
       have hFk:∀ c q,c≠b->H c=some q->upd H b (.frz o (.dK kvs)) c=some q:=fun c q n e=>by rw [Ae n];exact e
       generalize upd H b (.frz o (.dK kvs))=F0 at hLF hbF hFk ⊢
       have no:∀ (i:Nat) (kk:Key) (x:V),kvs[i]?=some (kk,x)->E2 xs k (vD (kV kk)) (vD x)=false->Q (.bl false) (upd F0 b (.dK kvs)):=fun i kk x hx hp=>by
        have hc:Gj xs k (.dk kvs)=false:=by
         show (kvs.all fun p=>E2 xs k (vD (kV p.1)) (vD p.2))=false
         exact List.all_eq_false.mpr ⟨_,List.mem_of_getElem? hx,by rw [hp];decide⟩
        have q:=kq _ (back F0 hFk)
        rw [hc] at q
        exact q
       refine Ox (d:=b) (o:=o) (kvs:=kvs) (fun i σ G=>∃ o3,σ=[some (.ref a),some (.int k),some (.ref b),o3]/\F0=G/\((kvs.take i).all fun p=>E2 xs k (vD (kV p.1)) (vD p.2))=true) ⟨none,rfl,rfl,rfl⟩ (fun i σ G _ ⟨_,_,e,_⟩=>by rw [←e];exact hbF) ?_ ?_
       . rintro i kk x σ G hx ⟨o3,rfl,rfl,hall⟩
         have hsx:=hv _ (List.mem_of_getElem? hx)
         refine⟨_,rfl,kV kk,vD (kV kk),rfl,(Ag0 kk).rep,_,rfl,?_⟩
         cases kk with
         | inr w =>
           refine ifP rfl ?_
           exact ⟨hbF,no i _ x hx (Wj rfl)⟩
         | inl n =>
           refine ifN (fun z=>nomatch (show false=true from z)) ?_
           refine⟨_,rfl,_,_,rfl,rfl,_,rfl,?_⟩
           refine ite2 (fun h1=>?_) (fun h1=>?_)
           . refine ifP rfl ?_
             refine⟨hbF,no i _ x hx (Gf ?_)⟩
             have h1':n<0:=by simpa using h1
             show (decide (0<=n)&&decide (n<(xs.length:Int))&&_)=false
             rw [decide_eq_false (show ¬0<=n by omega)]
             rfl
           obtain⟨us,hus,hul⟩:=LT.len hLF
           refine⟨_,rfl,_,rfl,a,us,rfl,.inl hus,_,_,rfl,rfl,_,rfl,?_⟩
           rw [hul]
           have h0:0<=n:=by simpa using h1
           refine ite2 (fun h2=>?_) (fun h2=>?_)
           . refine⟨hbF,no i _ x hx (Gf ?_)⟩
             have h2':(xs.length:Int)<=n:=by simpa using h2
             show (decide (0<=n)&&decide (n<(xs.length:Int))&&_)=false
             rw [decide_eq_false (show ¬n<(xs.length:Int) by omega)]
             simp
           have h3:n<(xs.length:Int):=by simpa using h2
           obtain⟨us2,v2,hus2,hat2,tv2⟩:=LT.get hLF h0 h3
           refine⟨_,rfl,_,rfl,a,us2,_,_,rfl,rfl,hus2,hat2,v2,nums (xs.getD n.toNat []),rfl,.inr tv2,_,rfl,rfl,_,rfl,?_⟩
           rw [show (nums (xs.getD n.toNat [])).length=(xs.getD n.toNat []).length from List.length_map ..]
           have pl:Bc xs (.int n) k=decide (levI (xs.getD n.toNat []).length=k):=by
            show (decide (0<=n)&&decide (n<(xs.length:Int))&&decide (levI (xs.getD n.toNat []).length=k))=_
            rw [decide_eq_true h0,decide_eq_true h3]
            rfl
           refine ite2 (fun h4=>?_) (fun h4=>?_)
           . refine ifP rfl ?_
             refine⟨hbF,no i _ x hx (Gf ?_)⟩
             show Bc xs (.int n) k=false
             rw [pl]
             simpa using h4
           have h5:levI (xs.getD n.toNat []).length=k:=by simpa using h4
           have dg:DGet F0 b (.int n) (some x):=.inl ⟨kvs,.inl n,.inr ⟨o,hbF⟩,rfl,(Av6 hnd hx).symm⟩
           refine⟨_,rfl,_,rfl,b,x,rfl,dg,x,vD x,rfl,hsx.rep,_,rfl,?_⟩
           cases hw:Dz (vD x) with
           | false =>
             refine ifP rfl ?_
             exact ⟨hbF,no i _ x hx (Lj (m7 hw))⟩
           | true =>
             refine ifN (by decide) ?_
             obtain⟨y,hy⟩:=Vx hw
             obtain rfl:x=.int y:=by
              cases x<;>first | exact hsx.elim | cases hy
              rfl
             refine⟨_,rfl,_,rfl,b,.int y,rfl,dg,rfl,_,rfl,?_⟩
             refine ite2 (fun h6=>?_) (fun h6=>?_)
             . have h7:y=0:=by simpa using h6
               exact ⟨hbF,no i _ _ hx (Lj (by rw [h7];rfl))⟩
             have h7:¬y=0:=by simpa using h6
             refine⟨_,rfl,rfl,?_⟩
             rw [List.take_add_one,hx,List.all_append,hall]
             show (true&&(E2 xs k (.int n) (.int y)&&true))=true
             unfold E2
             rw [pl,decide_eq_true h5]
             show (true&&(true&&decide (¬y=0)&&true))=true
             rw [decide_eq_true h7]
             rfl
       . rintro σ G ⟨o3,rfl,rfl,hall⟩
         rw [List.take_length] at hall
         exact ⟨hbF,key _ _ ⟨o3,rfl,back _ hFk,hall⟩⟩
     rintro _ G ⟨o3,rfl,s,e⟩
     have q:=kq G s
     rw [e] at q
     exact q
abbrev B1:Stmt:=top 47
theorem Rg:FnScope ["_law_shape","_law_chain","_law_total","_law_place","_law_sign","_law_face"] ["_law_shape","_law_chain"] (Ah B1):=⟨rfl,rfl,rfl,by decide +kernel,rfl,by decide +kernel,by decide +kernel⟩
theorem Cm:(["_law_shape","_law_chain","_law_total","_law_place","_law_sign","_law_face"]:List Str).Nodup:=by decide +kernel
theorem Rq {f:Addr}{fd:FuncData} (F:Fun K "_law_border_by" "_law_border_by" B1 f fd) (T:Txt K mg Ad) (Cu:Has P w K mg base "_law_without_noughts" ["_law_total"] 1 (Kv K)):FnOk P w K mg base CX0 2 f fd ["_law_shape","_law_chain"] (Ib K):=by
 refine F.ok Rg (fun vs H Q E h=>?_) (fun Bo A outer s H vs Q E hr h=>?_)
 . obtain⟨a,b,xs,ms,kc,rfl,hL,hb,hm,h4,hch,kq⟩:=h
   rfl
 . obtain⟨a,b,xs,ms,kc,rfl,hL,hb,hm,h4,hch,kq⟩:=h
   have hu8:(A.deeper (PyProof.Rows.envOfC "_law_border_by" (Ah B1) s.heap.objs.size f Bo)).units+8<cLine:=by have:=hr.units;omega
   refine⟨_,(Af (Ar (i:=2) Cm (by rfl) (by first | exact Or.inl rfl | exact Or.inr rfl) Fg)
    (Af (Pd (C0 PassesOwn.never rfl (Uc (pv 1)) (Au (i:=3) Cm (by rfl) (by first | exact Or.inl rfl | exact Or.inr rfl)) (Af (Ar (i:=4) Cm (by rfl) (by first | exact Or.inl rfl | exact Or.inr rfl) (Ez (u1 hu8) (pv 1) (pv 3) (fun _ _=>rfl)))
    (Ai (C0 PassesOwn.never rfl (U0 (K:=K) (Cc (Bi (K:=K)) (pv 0) (pv 3) (fun _ _=>rfl))) (Au (i:=5) Cm (by rfl) (by first | exact Or.inl rfl | exact Or.inr rfl)) (Af (Pe (u1 hu8) (pv 2) (pv 5) (A0 Il (Uf (u1 hu8) (pv 2) (pv 5) Aj ⟨by rfl,by rfl,by rfl,by rfl⟩) (pv 4)) (by rfl))
    (Ai (Ar (i:=4) Cm (by rfl) (by first | exact Or.inl rfl | exact Or.inr rfl) (A0 Ik Aj (pv 4))))))))))
    (Ai (At (Am Cu hr (by rfl) (Ab (pv 2) Ag)))))),?_⟩
   refine Aq (fun σ' H'=>∃ D:Addr,σ'=[some (.ref a),some (.ref b),some (.ref D),none,none,none]/\H D=none/\Same H H'/\H' D=some (.dK (cK []))) ?_ fun key=>?_
   rotate_left
   . exact fun D hD=>key _ _ ⟨D,rfl,hD,Same.new hD,Ac⟩
   rintro _ H1 ⟨D,rfl,hD,s1,hD1⟩
   have nDb:b≠D:=Al hb hD
   have hb1:=s1 _ _ hb
   have hL1:=Rep.same s1 hL
   refine Aq (fun σ' H'=>∃ o1 o2 o3,σ'=[some (.ref a),some (.ref b),some (.ref D),o1,o2,o3]/\Same H H'/\H' D=some (.dK (cK (zN xs ms ms.length)))) ?_ fun key=>?_
   rotate_left
   . refine .inr ⟨b,cK ms,hb1,fun hnd o=>?_⟩
     have hndm:nd ms:=Gr.mp hnd
     refine⟨_,rfl,b,o,cK ms,rfl,Ac,?_⟩
     refine Ox (d:=b) (o:=o) (kvs:=cK ms) (fun i σ G=>∃ o1 o2 o3,σ=[some (.ref a),some (.ref b),some (.ref D),o1,o2,o3]/\G b=some (.frz o (.dK (cK ms)))/\G D=some (.dK (cK (zN xs ms i)))/\(∀ c q,c≠b->c≠D->H1 c=some q->G c=some q))
      ⟨none,none,none,rfl,Ac,by rw [Ae nDb.symm];exact hD1,fun c q n1 n2 e=>by rw [Ae n1];exact e⟩ (fun i σ G _ ⟨_,_,_,_,e,_⟩=>e) ?_ ?_
     . rintro i kk x σ G hx ⟨o1,o2,o3,rfl,hbG,hDG,hkG⟩
       obtain⟨q,hq2,rfl,rfl⟩:=L5 hx
       have hlt:i<ms.length:=(List.getElem?_eq_some_iff.mp hq2).1
       have hqd:ms.getD i (0,0)=q:=by rw [List.getD_eq_getElem?_getD,hq2];rfl
       have hat:Bd ms q.1=some q.2:=Gy hndm (List.mem_of_getElem? hq2)
       have hpart:=List.all_eq_true.mp hch q (List.mem_of_getElem? hq2)
       have hin:0<=q.1/\q.1<(xs.length:Int):=by
        unfold A00 at hpart
        rw [Bool.and_eq_true] at hpart
        exact Pi hpart.1
       have hLG:LT K G (.ref a) xs:=by
        have e1:Kh b H1 (upd H1 b (.frz o (.dK (cK ms)))):=fun c r n e=>by rw [Ae n];exact e
        have l1:=Rep.x e1 hb1 hL1
        have d1:(upd H1 b (.frz o (.dK (cK ms)))) D=some (.dK (cK [])):=by rw [Ae nDb.symm];exact hD1
        have e2:Kh D (upd H1 b (.frz o (.dK (cK ms)))) G:=fun c r n e=>by
         by_cases z:c=b
         . subst z
           rw [Ac] at e
           cases e
           exact hbG
         . rw [Ae z] at e
           exact hkG c r z n e
        exact Rep.x (m:=cK []) e2 d1 l1
       refine⟨_,rfl,_,rfl,b,.int q.2,rfl,Hg (.inr ⟨o,hbG⟩) hat,?_⟩
       obtain⟨us,v,hus,hat2,tv⟩:=LT.get hLG hin.1 hin.2
       obtain⟨av,rfl,sqv⟩:=TI.sq tv
       have hfl:(xs.getD q.1.toNat []).length<=4:=by
        rcases Gw (l:=xs) (i:=q.1.toNat) (d:=[]) with z | z
        . exact h4 _ z
        . rw [z];exact Nat.zero_le _
       have zl:=n0 h4 ms i
       have step:zN xs ms (i+1)=zF (zN xs ms i) (xs.getD q.1.toNat []) q.2 (xs.getD q.1.toNat []).length:=by
        show zF (zN xs ms i) (xs.getD (ms.getD i (0,0)).1.toNat []) (ms.getD i (0,0)).2 (xs.getD (ms.getD i (0,0)).1.toNat []).length=_
        rw [hqd]
       rw [step]
       obtain⟨fs,hfs⟩:∃ fs,fs=xs.getD q.1.toNat []:=⟨_,rfl⟩
       rw [←hfs] at sqv hfl ⊢
       refine⟨_,rfl,_,rfl,a,us,_,_,rfl,rfl,hus,hat2,av,rfl,⟨_,sqv⟩,?_⟩
       refine A31 (K:=K) (a:=av) (xs:=fs.map V.int) (fun m σ G2=>∃ o3,σ=[some (.ref a),some (.ref b),some (.ref D),some (.int q.1),some (.int (sgn q.2 m)),o3]/\G2 D=some (.dK (cK (zF (zN xs ms i) fs q.2 m)))/\Kh D G G2)
        ⟨o3,rfl,hDG,fun c r n e=>e⟩ (fun m σ G2 _ ⟨_,_,_,st⟩=>SqT.x st hDG sqv) ?_ ?_
       . rintro m y σ G2 hy ⟨o3,rfl,hD2,st⟩
         have hm2:m<fs.length:=by have:=(List.getElem?_eq_some_iff.mp hy).1;simpa using this
         have hyv:y=.int (fs.getD m 0):=by
          rw [List.getElem?_map,List.getElem?_eq_getElem hm2] at hy
          rw [List.getD_eq_getElem?_getD,List.getElem?_eq_getElem hm2]
          simpa using hy.symm
         subst hyv
         have lz:=Aj6 (zN xs ms i) fs q.2 m
         refine⟨_,rfl,D,rfl,.inl ⟨_,.inl hD2⟩,_,rfl,_,Ve (.inl hD2),_,rfl,getI (zF (zN xs ms i) fs q.2 m) (fs.getD m 0),_,i4 _ _,rfl,_,rfl,_,rfl,D,_,rfl,Qe hD2 (by omega),?_⟩
         refine⟨_,rfl,_,_,rfl,rfl,some (.int (fs.getD m 0)),?_,Ac,fun c r n e=>by rw [Ae n];exact st c r n e⟩
         have:sgn q.2 (m+1)=0-sgn q.2 m:=by unfold sgn;split<;>split<;>omega
         rw [this]
         rfl
       . rintro σ G2 ⟨o3,rfl,hD2,st⟩
         rw [List.length_map] at hD2
         exact ⟨_,_,_,rfl,st _ _ nDb hbG,hD2,fun c r n1 n2 e=>st c r n2 (hkG c r n1 n2 e)⟩
     . rintro σ G ⟨o1,o2,o3,rfl,hbG,hDG,hkG⟩
       rw [Dg] at hDG
       refine⟨hbG,key _ _ ⟨o1,o2,o3,rfl,fun c q e=>?_,by rw [Ae nDb.symm];exact hDG⟩⟩
       by_cases z:c=b
       . subst z
         rw [hb] at e
         cases e
         exact Ac
       . rw [Ae z];exact hkG c q z (Al e hD) (s1 _ _ e)
   rintro _ G ⟨o1,o2,o3,rfl,sG,hDG⟩
   have lz:=n0 h4 ms ms.length
   exact ⟨_,rfl,D,zN xs ms ms.length,rfl,hDG,by omega,fun D2 H2 n2 s2 e2=>kq D2 H2 (sG.free n2) (sG.trans s2) e2⟩
abbrev Bp:Stmt:=top 53
theorem O9:FnScope ["_law_words","_law_word","_law_family","_law_layer","_law_rows","_law_k","_law_below","_law_one","_law_face","_law_more"] ["_law_words","_law_word","_law_family"] (Ah Bp):=⟨rfl,rfl,rfl,by decide +kernel,rfl,by decide +kernel,by decide +kernel⟩
theorem A4:(["_law_words","_law_word","_law_family","_law_layer","_law_rows","_law_k","_law_below","_law_one","_law_face","_law_more"]:List Str).Nodup:=by decide +kernel
theorem Pk {f:Addr}{fd:FuncData} (F:Fun K "_law_words_with" "_law_words_with" Bp f fd) (T:Txt K mg Ad) (C3:Has P w K mg base "_law_faces_by" ["_law_word","_law_family"] 1 (Ei K)):FnOk P w K mg base CX0 2 f fd ["_law_words","_law_word","_law_family"] (Ex K):=by
 refine F.ok O9 (fun vs H Q E h=>?_) (fun Bo A outer s H vs Q E hr h=>?_)
 . obtain⟨l,us,v,ws,w,fam,rfl,hl,hr0,hv,hw,hlen,k⟩:=h
   rfl
 . obtain⟨l,us,v,ws,w,fam,rfl,hl,hr0,hv,hw,hlen,k⟩:=h
   have hu8:(A.deeper (PyProof.Rows.envOfC "_law_words_with" (Ah Bp) s.heap.objs.size f Bo)).units+8<cLine:=by have:=hr.units;omega
   refine⟨_,(Af (Ar (i:=3) A4 (by rfl) (by first | exact Or.inl rfl | exact Or.inr rfl) (D0 (Ab (pv 1) Ag)))
    (Af (Ar (i:=4) A4 (by rfl) (by first | exact Or.inl rfl | exact Or.inr rfl) (D0 Ag))
    (Af (C0 PassesOwn.never rfl (Cl (by rfl) T.n_range (Ab Aj Ag)) (Au (i:=5) A4 (by rfl) (by first | exact Or.inl rfl | exact Or.inr rfl)) (Af (Ar (i:=4) A4 (by rfl) (by first | exact Or.inl rfl | exact Or.inr rfl) (A0 (Iq (K:=K)) (pv 3) (pv 4)))
    (Af (Ar (i:=6) A4 (by rfl) (by first | exact Or.inl rfl | exact Or.inr rfl) (D0 Ag))
    (Af (C0 PassesOwn.never rfl (Ej (K:=K) (pv 3)) (Au (i:=7) A4 (by rfl) (by first | exact Or.inl rfl | exact Or.inr rfl)) (Ai (C0 PassesOwn.never rfl (Ej (K:=K) (Am C3 hr (by rfl) (Ab (pv 7) (Ab (pv 2) Ag)))) (Au (i:=8) A4 (by rfl) (by first | exact Or.inl rfl | exact Or.inr rfl)) (Ai (Bh (PW.pt (l7 (Ao (Jp (K:=K) hu8) (pv 8) (pv 0) rfl) (T5 (Ao (Jp (K:=K) hu8) (pv 8) (pv 6) rfl)))) (Ai (Ck (Lp (K:=K) PySem.F.plainAttrs_list PySem.F.slot_list_append PySem.F.type_list_append C7 (pv 6) (Ab (pv 8) Ag)))) Aw)))))
    (Ai (Ar (i:=3) A4 (by rfl) (by first | exact Or.inl rfl | exact Or.inr rfl) (pv 6)))))))
    (Af (Ar (i:=9) A4 (by rfl) (by first | exact Or.inl rfl | exact Or.inr rfl) (B4 (Lq (K:=K)) (by rfl) T.n_list Jv (Ab (pv 0) Ag)))
    (Af (C0 PassesOwn.never rfl (Ej (K:=K) (pv 4)) (Au (i:=7) A4 (by rfl) (by first | exact Or.inl rfl | exact Or.inr rfl)) (Ai (Bh (Ao (Jp (K:=K) hu8) (pv 7) (pv 9) rfl) (Ai (Ck (Lp (K:=K) PySem.F.plainAttrs_list PySem.F.slot_list_append PySem.F.type_list_append C7 (pv 9) (Ab (pv 7) Ag)))) Aw)))
    (Ai (At (pv 9)))))))),?_⟩
   have s0w:∀ u∈[w],Word fam u:=fun u hu=>by
    have e:u=w:=by simpa using hu
    subst e
    exact hw
   refine⟨_,rfl,A7 (by simp),fun L0 hL0=>?_⟩
   have s1:Same H (upd H L0 (.lst [v])):=Same.new hL0
   refine⟨Nat.zero_le _,fun R0 hR0=>?_⟩
   have s2:Same (upd H L0 (.lst [v])) (upd (upd H L0 (.lst [v])) R0 (.lst [])):=Same.new hR0
   refine⟨_,rfl,by decide,by decide,Co (lo:=0) (n:=(4:Int).toNat)
    (fun i σ H2=>∃ (L R:Addr) (lu ru:List V) (layer rows:List (List Int)) (o5 o6 o7 o8 o9:Option V),σ=[some (.ref l),some v,some (.int fam),some (.ref L),some (.ref R),o5,o6,o7,o8,o9]/\Same H H2 ∧
      H2 L=some (.lst lu)/\Reps K H2 lu (layer.map tI)/\H2 R=some (.lst ru)/\Reps K H2 ru (rows.map tI)/\(∀ u∈layer,Word fam u)/\Lm ws fam (4-i) layer rows=Lm ws fam 4 [w] []/\layer.length<=4 ^ i/\rows.length<=1000*i)
    ⟨L0,R0,[v],[],[w],[],none,none,none,none,none,rfl,s1.trans s2,s2 _ _ Ac,Reps.one (TI.same (s1.trans s2) hv),Ac,rfl,s0w,rfl,by simp,by simp⟩ ?_ ?_⟩
   . rintro i σ H2 hi ⟨L,R,lu,ru,layer,rows,o5,o6,o7,o8,o9,rfl,sH,hL,rL,hR,rR,hWl,hlay,hll,hrl⟩
     have hi4:i<4:=by simpa using hi
     have h4i:4 ^ i<=64:=by
      have:i=0\/i=1\/i=2\/i=3:=by omega
      rcases this with rfl | rfl | rfl | rfl<;>decide
     have lul:lu.length=layer.length:=by have:=rL.length;simpa using this
     have rul:ru.length=rows.length:=by have:=rR.length;simpa using this
     refine⟨_,rfl,_,rfl,L,R,_,_,rfl,rfl,.of hL,.of hR,A7 (by omega),fun R1 hR1=>?_⟩
     have sa:Same H2 (upd H2 R1 (.lst (lu++ru))):=Same.new hR1
     have hR1a:(upd H2 R1 (.lst (lu++ru))) R1=some (.lst (lu++ru)):=Ac
     have rRa:Reps K (upd H2 R1 (.lst (lu++ru))) (lu++ru) ((layer++rows).map tI):=by
      rw [List.map_append]
      exact (Reps.same sa rL).append (Reps.same sa rR)
     have hLa:=sa _ _ hL
     have rLa:Reps K (upd H2 R1 (.lst (lu++ru))) lu (layer.map tI):=Reps.same sa rL
     have sHa:Same H (upd H2 R1 (.lst (lu++ru))):=sH.trans sa
     refine⟨Nat.zero_le _,fun B hB=>?_⟩
     have sb:Same (upd H2 R1 (.lst (lu++ru))) (upd (upd H2 R1 (.lst (lu++ru))) B (.lst [])):=Same.new hB
     have hBH:H B=none:=sHa.free hB
     refine⟨_,rfl,L,rfl,⟨_,.of (sb _ _ hLa)⟩,for_list (K:=K) (a:=L) (xs:=lu)
      (fun j σ H3=>∃ (bu:List V) (o7 o8:Option V),σ=[some (.ref l),some v,some (.int fam),some (.ref L),some (.ref R1),some (.int (0+i)),some (.ref B),o7,o8,o9]/\Same (upd H2 R1 (.lst (lu++ru))) H3/\H3 B=some (.lst bu) ∧
        Reps K H3 bu ((Dt ws fam [] (layer.take j)).map tI))
      ⟨[],_,_,rfl,sb,Ac,rfl⟩ (fun j σ H3 _ ⟨_,_,_,_,s3,_⟩=>.of (s3 _ _ hLa)) ?_ ?_⟩
     . rintro j x σ H3 hx ⟨bu,o7,o8,rfl,s3,hB3,rB⟩
       have hj:j<lu.length:=(List.getElem?_eq_some_iff.mp hx).1
       have hjl:j<layer.length:=by omega
       have hjx:(layer.map tI)[j]?=some (tI layer[j]):=by rw [List.getElem?_map,List.getElem?_eq_getElem hjl];rfl
       obtain⟨x',hx',tx⟩:=rLa.get hjx
       rw [hx] at hx'
       cases hx'
       have hwj:Word fam layer[j]:=hWl _ (List.getElem_mem _)
       refine⟨_,rfl,_,rfl,x,layer[j],fam,rfl,TI.same s3 tx,hwj,fun p fu H4 hp s4 hp4 r4=>?_⟩
       have fl:=Gi hwj
       have ful:fu.length=(Ak layer[j] fam).length:=by have:=r4.length;simpa using this
       have hpB:p≠B:=fun z=>by rw [z,hB3] at hp;cases hp
       have hB4:=s4 _ _ hB3
       refine⟨p,rfl,⟨_,.of hp4⟩,for_list (K:=K) (a:=p) (xs:=fu)
        (fun m σ H5=>∃ (bu:List V) (o8:Option V),σ=[some (.ref l),some v,some (.int fam),some (.ref L),some (.ref R1),some (.int (0+i)),some (.ref B),some x,o8,o9]/\SameX B H4 H5/\H5 B=some (.lst bu) ∧
          Reps K H5 bu ((B0 ws (Dt ws fam [] (layer.take j)) ((Ak layer[j] fam).take m)).map tI)/\(B0 ws (Dt ws fam [] (layer.take j)) ((Ak layer[j] fam).take m)).length<=1000)
        ⟨bu,_,rfl,SameX.refl _ _,hB4,(by simpa [B0] using Reps.same s4 rB),?_⟩ (fun m σ H5 _ ⟨_,_,_,s5,_⟩=>.of (s5 _ _ hpB hp4)) ?_ ?_⟩
       . have:=Jj (ws:=ws) (fam:=fam) (layer.take j) [] (fun u hu=>hWl u (List.mem_of_mem_take hu))
         simp only [List.take_zero,B0,List.length_nil,List.length_take] at this ⊢
         omega
       . rintro m y σ H5 hy ⟨bu5,o8',rfl,s5,hB5,rB5,hbl5⟩
         have hm:m<fu.length:=(List.getElem?_eq_some_iff.mp hy).1
         have hmf:m<(Ak layer[j] fam).length:=by omega
         have hmy:((Ak layer[j] fam).map tI)[m]?=some (tI (Ak layer[j] fam)[m]):=by rw [List.getElem?_map,List.getElem?_eq_getElem hmf];rfl
         obtain⟨y',hy',ty⟩:=r4.get hmy
         rw [hy] at hy'
         cases hy'
         generalize hf:(Ak layer[j] fam)[m]=fc at ty
         have ty5:TI K H5 y fc:=TI.t (s5.t hB4) ty
         have hl5:H5 l=some (.lst us):=by
          refine s5 l _ (fun z=>?_) (s4 _ _ (s3 _ _ (sHa _ _ hl)))
          rw [z] at hl
          rw [hl] at hBH
          cases hBH
         have rl5:Rep K H5 (.ref l) (.lst (ws.map tI)):=⟨l,us,rfl,.of hl5,Reps.t (s5.t hB4) (Lr ws) (Reps.same ((sHa.trans s3).trans s4) hr0)⟩
         have rb5:Rep K H5 (.ref B) (.lst ((B0 ws (Dt ws fam [] (layer.take j)) ((Ak layer[j] fam).take m)).map tI)):=⟨B,bu5,rfl,.of hB5,rB5⟩
         have e0:B0 ws (Dt ws fam [] (layer.take j)) ((Ak layer[j] fam).take (m+1))=(if fc ∉ ws/\fc ∉ B0 ws (Dt ws fam [] (layer.take j)) ((Ak layer[j] fam).take m) then B0 ws (Dt ws fam [] (layer.take j)) ((Ak layer[j] fam).take m)++[fc] else B0 ws (Dt ws fam [] (layer.take j)) ((Ak layer[j] fam).take m)):=by
          rw [List.take_succ,List.getElem?_eq_getElem hmf,hf]
          exact Q3 _ _ _ _
         have hbu5:bu5.length=(B0 ws (Dt ws fam [] (layer.take j)) ((Ak layer[j] fam).take m)).length:=by have:=rB5.length;simpa using this
         have hlen6:(B0 ws (Dt ws fam [] (layer.take j)) ((Ak layer[j] fam).take (m+1))).length<=1000:=by
          have h1:=Nz (ws:=ws) ((Ak layer[j] fam).take (m+1)) (Dt ws fam [] (layer.take j))
          have h2:=Jj (ws:=ws) (fam:=fam) (layer.take j) [] (fun u hu=>hWl u (List.mem_of_mem_take hu))
          simp only [List.length_nil,List.length_take] at h1 h2
          have h3:(Ak layer[j] fam).length<=4:=by have:=fl.1;have:=fl.2;split at*<;> omega
          omega
         generalize hacc:B0 ws (Dt ws fam [] (layer.take j)) ((Ak layer[j] fam).take m)=acc at rB5 rb5 e0 hbu5 hbl5
         refine⟨_,rfl,_,rfl,tI fc,ws.map tI,ty5,.inl rl5,(by have:=Ju ws;omega),_,rfl,?_⟩
         by_cases h1:fc∈ws
         . refine ifN (by rw [if_pos rfl,Qz];simp [h1]) ?_
           refine ifN (by simp) ?_
           refine⟨bu5,_,rfl,s5,hB5,?_,hlen6⟩
           rw [e0,if_neg (by simp [h1])]
           exact rB5
         . refine ifP (by rw [if_pos rfl,Qz];simp [h1]) ?_
           refine⟨_,rfl,_,rfl,tI fc,acc.map tI,ty5,.inl rb5,(by have:=Ju acc;omega),_,rfl,?_⟩
           by_cases h2:fc∈acc
           . refine ifN (by rw [if_pos rfl,Qz];simp [h2]) ?_
             refine⟨bu5,_,rfl,s5,hB5,?_,hlen6⟩
             rw [e0,if_neg (by simp [h2])]
             exact rB5
           . refine ifP (by rw [if_pos rfl,Qz];simp [h2]) ?_
             refine⟨_,rfl,.inl ⟨rfl,_,.of hB5⟩,_,rfl,B,_,_,rfl,rfl,hB5,C5 (by omega),?_⟩
             refine⟨_,_,rfl,s5.upd,Ac,?_,hlen6⟩
             rw [e0,if_pos ⟨h1,h2⟩]
             exact Kz hB5 rB5 ty5
       . rintro σ H5 ⟨bu5,o8',rfl,s5,hB5,rB5,_⟩
         refine⟨bu5,_,_,rfl,?_,hB5,?_⟩
         . exact s5.same (s3.trans s4) hB
         . rw [ful,List.take_length] at rB5
           rw [List.take_succ,List.getElem?_eq_getElem hjl]
           have e1:Dt ws fam [] (layer.take j++(some layer[j]).toList)=B0 ws (Dt ws fam [] (layer.take j)) (Ak layer[j] fam):=S3 _ _ _ _ _
           rw [e1]
           exact rB5
     . rintro σ H3 ⟨bu,o7,o8,rfl,s3,hB3,rB⟩
       rw [lul,List.take_length] at rB
       refine⟨_,rfl,?_⟩
       refine⟨B,R1,bu,lu++ru,Dt ws fam [] layer,layer++rows,_,_,_,_,_,rfl,sHa.trans s3,hB3,rB,s3 _ _ hR1a,Reps.same s3 rRa,?_,?_,?_,?_⟩
       . intro u hu
         rcases L6 _ _ hu with z|⟨t,ht,z⟩
         . exact nomatch z
         . exact (Jt (hWl t ht) z).1
       . rw [←hlay,show 4-i=(4-(i+1))+1 by omega]
         rfl
       . have:=Jj (ws:=ws) (fam:=fam) layer [] hWl
         simp only [List.length_nil] at this
         rw [Nat.pow_succ]
         omega
       . rw [List.length_append]
         omega
   . rintro σ H2 ⟨L,R,lu,ru,layer,rows,o5,o6,o7,o8,o9,rfl,sH,hL,rL,hR,rR,hWl,hlay,hll,hrl⟩
     have hrows:rows=Lm ws fam 4 [w] []:=hlay
     have hrl2:=Ab4 (ws:=ws) hw
     rw [←hrows] at hrl2
     have rul:ru.length=rows.length:=by have:=rR.length;simpa using this
     refine⟨_,rfl,l,_,rfl,.inl (.of (sH _ _ hl)),fun M hM=>?_⟩
     have sm:Same H2 (upd H2 M (.lst us)):=Same.new hM
     have hMH:H M=none:=sH.free hM
     have usl:us.length=ws.length:=by have:=hr0.length;simpa using this
     refine⟨_,rfl,R,rfl,⟨_,.of (sm _ _ hR)⟩,for_list (K:=K) (a:=R) (xs:=ru)
      (fun j σ H3=>∃ (mu:List V) (o7:Option V),σ=[some (.ref l),some v,some (.int fam),some (.ref L),some (.ref R),o5,o6,o7,o8,some (.ref M)]/\Same H2 H3/\H3 M=some (.lst mu)/\Reps K H3 mu ((Dc ws (rows.take j)).map tI))
      ⟨us,_,rfl,sm,Ac,(by simpa [Dc] using Reps.same (sH.trans sm) hr0)⟩ (fun j σ H3 _ ⟨_,_,_,s3,_⟩=>.of (s3 _ _ hR)) ?_ ?_⟩
     . rintro j x σ H3 hx ⟨mu,o7',rfl,s3,hM3,rM⟩
       have hj:j<ru.length:=(List.getElem?_eq_some_iff.mp hx).1
       have hjl:j<rows.length:=by omega
       have hjx:(rows.map tI)[j]?=some (tI rows[j]):=by rw [List.getElem?_map,List.getElem?_eq_getElem hjl];rfl
       obtain⟨x',hx',tx⟩:=rR.get hjx
       rw [hx] at hx'
       cases hx'
       generalize hf:rows[j]=fc at tx
       have tx3:TI K H3 x fc:=TI.same s3 tx
       have e0:Dc ws (rows.take (j+1))=(if fc∈Dc ws (rows.take j) then Dc ws (rows.take j) else Dc ws (rows.take j)++[fc]):=by
        rw [List.take_succ,List.getElem?_eq_getElem hjl,hf]
        exact Q4 _ _ _
       have hal:=S8 (rows.take j) ws
       rw [List.length_take] at hal
       have mul:mu.length=(Dc ws (rows.take j)).length:=by have:=rM.length;simpa using this
       generalize hacc:Dc ws (rows.take j)=acc at rM e0 hal mul
       have rm3:Rep K H3 (.ref M) (.lst (acc.map tI)):=⟨M,mu,rfl,.of hM3,rM⟩
       refine⟨_,rfl,_,rfl,tI fc,acc.map tI,tx3,.inl rm3,(by have:=Ju acc;omega),_,rfl,?_⟩
       by_cases h1:fc∈acc
       . refine ifN (by rw [if_pos rfl,Qz];simp [h1]) ?_
         refine⟨mu,_,rfl,s3,hM3,?_⟩
         rw [e0,if_pos h1]
         exact rM
       . refine ifP (by rw [if_pos rfl,Qz];simp [h1]) ?_
         refine⟨_,rfl,.inl ⟨rfl,_,.of hM3⟩,_,rfl,M,_,_,rfl,rfl,hM3,C5 (by omega),?_⟩
         refine⟨_,_,rfl,s3.turn hM,Ac,?_⟩
         rw [e0,if_neg h1]
         exact Kz hM3 rM tx3
     . rintro σ H3 ⟨mu,o7',rfl,s3,hM3,rM⟩
       rw [rul,List.take_length,hrows] at rM
       exact ⟨_,rfl,k M mu H3 hMH (sH.trans s3) hM3 rM⟩
abbrev Dl:Stmt:=top 55
theorem Yv:FnScope ["_law_script","_law_papers","_law_prime","_law_how","_law_many","_law_at","_law_spot","_law_paper","_law_number"] ["_law_script","_law_papers","_law_prime"] (Ah Dl):=⟨rfl,rfl,rfl,by decide +kernel,rfl,by decide +kernel,by decide +kernel⟩
theorem Cd:(["_law_script","_law_papers","_law_prime","_law_how","_law_many","_law_at","_law_spot","_law_paper","_law_number"]:List Str).Nodup:=by decide +kernel
theorem Ze {f:Addr}{fd:FuncData} (F:Fun K "_law_spoilt" "_law_spoilt" Dl f fd) (T:Txt K mg Ad) (Br:Has P w K mg base "_law_cell_at" ["_law_script","_law_k"] 1 (Fe K)):FnOk P w K mg base CX0 2 f fd ["_law_script","_law_papers","_law_prime"] (Md K):=by
 refine F.ok Yv (fun vs H Q E h=>?_) (fun Bo A outer s H vs Q E hr h=>?_)
 . obtain⟨a,l,ns,us,mss,p,rfl,hS,hl,hU,hP,h40,h50,kq⟩:=h
   rfl
 . obtain⟨a,l,ns,us,mss,p,rfl,hS,hl,hU,hP,h40,h50,kq⟩:=h
   have hu8:(A.deeper (PyProof.Rows.envOfC "_law_spoilt" (Ah Dl) s.heap.objs.size f Bo)).units+8<cLine:=by have:=hr.units;omega
   refine⟨_,(Af (Ar (i:=3) Cd (by rfl) (by first | exact Or.inl rfl | exact Or.inr rfl) (Am Br hr (by rfl) (Ab (pv 0) (Ab Aj Ag))))
    (Af (Ar (i:=4) Cd (by rfl) (by first | exact Or.inl rfl | exact Or.inr rfl) (An (Ap (K:=K)) (by rfl) T.n_len PySem.boot_len (Ab (pv 1) Ag)))
    (Af (Bh (PW.pt (Lh (Ao Fr (A0 Bs (pv 3) Aj) Aj (Ax _)) (Ih (Ao Fr (pv 4) Aj (Ax _))))) (Ai (At (pv 1))) Aw)
    (Af (Ar (i:=5) Cd (by rfl) (by first | exact Or.inl rfl | exact Or.inr rfl) (A0 Bs (Am Br hr (by rfl) (Ab (pv 0) (Ab Aj Ag))) (pv 4)))
    (Af (Ar (i:=6) Cd (by rfl) (by first | exact Or.inl rfl | exact Or.inr rfl) (Am Br hr (by rfl) (Ab (pv 0) (Ab Aj Ag))))
    (Af (Bh (Ao Fr (A0 Bs (pv 3) Aj) Aj (Ax _)) (Ai (At (PEw.h (Y6 (K:=K) (Bn Wi (Bn (B4 (Dw (K:=K)) (by rfl) T.n_tuple E8 (Ab (pv 1) Ag)) (Bn (A0 (Iq (K:=K)) (pv 1) (D0 (Ab Fg Ag))) (Bn (C6 (Ln (K:=K)) (pv 1) Fn (D8 (Ah4 V0 Aj))) (Bn (C6 (Ln (K:=K)) (pv 1) (D8 Aj) Fn) Y8))))) (A0 Bs (A0 Fq (pv 3) Aj) Aj) (fun _ _=>rfl))))) Aw)
    (Af (Ar (i:=7) Cd (by rfl) (by first | exact Or.inl rfl | exact Or.inr rfl) (B4 Nt (by rfl) T.n_dict Ds (Ab (Cc (Bi (K:=K)) (pv 1) (pv 5) (fun _ _=>rfl)) Ag)))
    (Af (Bh (Ao Fr (A0 Bs (pv 3) Aj) Aj (Ax _)) (Af (Ar (i:=8) Cd (by rfl) (by first | exact Or.inl rfl | exact Or.inr rfl) (Am Br hr (by rfl) (Ab (pv 0) (Ab Aj Ag))))
    (Ai (Pe (u1 hu8) (pv 7) (A0 Ik (A0 Bs (pv 6) (A0 Il (pv 4) Aj)) Aj) (PEw.h (Y6 (K:=K) (Bn (pv 2) (Bn (A0 Ik (pv 2) Aj) (Bn Aj (Bn (A0 Ik (A0 Bs (A0 Fq (pv 8) Aj) Aj) Aj) (Bn Aj Y8))))) (A0 Bs (pv 8) Aj) (fun _ _=>rfl))) (by rfl)))) (Ai (Bh (PW.pt (l7 (Ao Fr (A0 Bs (A0 Fq (pv 3) Aj) Aj) Aj (Ax _)) (T5 (Ao z8 (An Jh (by rfl) T.n_len PySem.boot_len (Ab (pv 7) Ag)) Aj (Ax _))))) (Ai (Ck (As1 (pv 7) (Cc (Bi (K:=K)) (An (Xq (by rfl)) (by rfl) T.n_sorted PyProof.Rows.boot_sorted (Ab (pv 7) Ag)) (A0 Bs (pv 6) (An Jh (by rfl) T.n_len PySem.boot_len (Ab (pv 7) Ag))) (fun _ _=>rfl)) ⟨by rfl,by rfl,by rfl,by rfl⟩))) (Ai (Bh (Ao Fr (A0 Bs (A0 Fq (pv 3) Aj) Aj) Aj (Ax _)) (Ai (Ar (i:=7) Cd (by rfl) (by first | exact Or.inl rfl | exact Or.inr rfl) (PEw.h (Y6 (K:=K) (Bn Wi (Bn (D0 (Ab (pv 5) Ag)) (Bn (Y7 (Oq (pv 5) E1 T6) (by rfl) (by rfl) (by intro z;cases z) (Nat.le_of_ble_eq_true rfl)) (Bn Fg (Bn (As2 (u1 hu8) E1 Aj) (Bn (Y7 (Oq (pv 5) Wi T6) (by rfl) (by rfl) (by intro z;cases z) (Nat.le_of_ble_eq_true rfl)) (Bn A77 Y8))))))) (A0 Bs (pv 6) Aj) (fun _ _=>rfl))))) (Ai (Ar (i:=7) Cd (by rfl) (by first | exact Or.inl rfl | exact Or.inr rfl) (Cc (Bi (K:=K)) (pv 1) (A0 Bs (pv 6) (pv 4)) (fun _ _=>rfl)))))))))
    (Ai (At (A0 (Iq (K:=K)) (A0 (Iq (K:=K)) (C6 (Ln (K:=K)) (pv 1) Fn (D8 (pv 5))) (D0 (Ab (pv 7) Ag))) (C6 (Ln (K:=K)) (pv 1) (D8 (A0 Il (pv 5) Aj)) Fn)))))))))))),?_⟩
   have hul:us.length=mss.length:=by have:=hP.1;rw [List.length_map] at this;exact this
   refine Aq (fun σ' H'=>∃ how:Int,σ'=[some (.ref a),some (.ref l),some (.int p),some (.int how),none,none,none,none,none]/\H=H') ?_ fun key=>?_
   rotate_left
   . exact ⟨_,rfl,a,ns,1,rfl,hS,by decide,hl,key _ _ ⟨_,rfl,rfl⟩⟩
   rintro _ _ ⟨how,rfl,rfl⟩
   refine Aq (fun σ' H'=>σ'=[some (.ref a),some (.ref l),some (.int p),some (.int how),some (.int (us.length:Int)),none,none,none,none]/\H=H') ?_ fun key=>?_
   rotate_left
   . exact ⟨_,rfl,l,us,rfl,.inl (.of hU),key _ _ ⟨rfl,rfl⟩⟩
   rintro _ _ ⟨rfl,rfl⟩
   refine Aq (t:=tIfS _ _ _) (fun σ' H'=>σ'=[some (.ref a),some (.ref l),some (.int p),some (.int how),some (.int (us.length:Int)),none,none,none,none]/\H=H'/\0<us.length) ?_ fun key=>?_
   rotate_left
   . have ret:Q (.ref l) H:=kq (.ref l) (some (mss.map .ch)) H (Same.refl H) ⟨l,us,rfl,hU,hP,by rw [List.length_map];omega⟩
     refine⟨_,rfl,_,_,rfl,rfl,(by show (0:Int)<4;decide),rfl,_,rfl,?_⟩
     refine ite2 (fun _=>?_) (fun _=>?_)
     . refine ifP rfl ?_
       exact ⟨_,rfl,ret⟩
     . refine⟨_,rfl,rfl,_,rfl,?_⟩
       refine ite2 (fun h1=>?_) (fun h1=>?_)
       . exact ⟨_,rfl,ret⟩
       . have:¬(us.length:Int)=0:=by simpa using h1
         exact key _ _ ⟨rfl,rfl,by omega⟩
   rintro _ _ ⟨rfl,rfl,hpos⟩
   have np:(0:Int)<(us.length:Int):=by omega
   refine Aq (fun σ' H'=>∃ at1:Int,σ'=[some (.ref a),some (.ref l),some (.int p),some (.int how),some (.int (us.length:Int)),some (.int at1),none,none,none]/\H=H'/\0<=at1/\at1<(us.length:Int)) ?_ fun key=>?_
   rotate_left
   . exact ⟨_,rfl,a,ns,2,rfl,hS,by decide,hl,_,rfl,_,_,rfl,rfl,np,key _ _ ⟨_,rfl,rfl,Int.emod_nonneg _ (by omega),Int.emod_lt_of_pos _ np⟩⟩
   rintro _ _ ⟨at1,rfl,rfl,a0,a1⟩
   obtain⟨at0,rfl⟩:=Int.eq_ofNat_of_zero_le a0
   have hat:at0<us.length:=by omega
   refine Aq (fun σ' H'=>∃ spot:Int,σ'=[some (.ref a),some (.ref l),some (.int p),some (.int how),some (.int (us.length:Int)),some (.int (at0:Int)),some (.int spot),none,none]/\H=H') ?_ fun key=>?_
   rotate_left
   . exact ⟨_,rfl,a,ns,3,rfl,hS,by decide,hl,key _ _ ⟨_,rfl,rfl⟩⟩
   rintro _ _ ⟨spot,rfl,rfl⟩
   refine Aq (t:=tIfS _ _ _) (fun σ' H'=>σ'=[some (.ref a),some (.ref l),some (.int p),some (.int how),some (.int (us.length:Int)),some (.int (at0:Int)),some (.int spot),none,none]/\H=H') ?_ fun key=>?_
   rotate_left
   . refine⟨_,rfl,_,_,rfl,rfl,(by show (0:Int)<4;decide),rfl,_,rfl,?_⟩
     refine ite2 (fun _=>?_) (fun _=>key _ _ ⟨rfl,rfl⟩)
     refine⟨_,rfl,l,us,rfl,.inl ⟨.of hU,fun T1 hT1=>?_⟩⟩
     have s1:Same H (upd H T1 (.tup us)):=Same.new hT1
     have e1:upd H T1 (.tup us) T1=some (.tup us):=Ac
     generalize upd H T1 (.tup us)=H1 at s1 e1 ⊢
     refine⟨_,rfl,fun d hd=>?_⟩
     have s2:Same H1 (upd H1 d (.dK [])):=Same.new hd
     have e2:upd H1 d (.dK []) d=some (.dK (cK [])):=Ac
     generalize upd H1 d (.dK [])=H2 at s2 e2 ⊢
     refine⟨A7 (by simp),fun L hL=>?_⟩
     have s3:Same H2 (upd H2 L (.lst [.ref d])):=Same.new hL
     have e3:upd H2 L (.lst [.ref d]) L=some (.lst [.ref d]):=Ac
     generalize upd H2 L (.lst [.ref d])=H3 at s3 e3 ⊢
     have s13:=(s1.trans s2).trans s3
     refine⟨l,L,us,[.ref d],rfl,rfl,.of (s13 _ _ hU),.of e3,A7 (by simp;omega),fun C hC=>?_⟩
     have s4:Same H3 (upd H3 C (.lst (us++[.ref d]))):=Same.new hC
     have e4:upd H3 C (.lst (us++[.ref d])) C=some (.lst (us++[.ref d])):=Ac
     generalize upd H3 C (.lst (us++[.ref d]))=H4 at s4 e4 ⊢
     have s14:=s13.trans s4
     refine⟨_,rfl,_,rfl,_,rfl,l,us,rfl,.of (s14 _ _ hU),fun A1 hA1=>?_⟩
     have c1:cutV us none (some (-1))=us.take (us.length-1):=An2 us
     rw [c1]
     have s5:Same H4 (upd H4 A1 (.lst (us.take (us.length-1)))):=Same.new hA1
     have e5:upd H4 A1 (.lst (us.take (us.length-1))) A1=some (.lst (us.take (us.length-1))):=Ac
     generalize upd H4 A1 (.lst (us.take (us.length-1)))=H5 at s5 e5 ⊢
     have s15:=s14.trans s5
     refine⟨_,rfl,_,rfl,l,us,rfl,.of (s15 _ _ hU),fun A2 hA2=>?_⟩
     have c2:cutV us (some 1) none=us.drop 1:=by rw [show (1:Int)=((1:Nat):Int) from rfl,Lx]
     rw [c2]
     have s6:Same H5 (upd H5 A2 (.lst (us.drop 1))):=Same.new hA2
     have e6:upd H5 A2 (.lst (us.drop 1)) A2=some (.lst (us.drop 1)):=Ac
     generalize upd H5 A2 (.lst (us.drop 1))=H6 at s6 e6 ⊢
     have s16:=s15.trans s6
     refine⟨A7 (by simp),fun T2 hT2=>?_⟩
     have s7:Same H6 (upd H6 T2 (.tup [.non,.ref T1,.ref C,.ref A1,.ref A2])):=Same.new hT2
     have s17:=s16.trans s7
     have hP7:=hP.same s17
     have up1:=((((s2.trans s3).trans s4).trans s5).trans s6).trans s7
     have d7:=(((((s3).trans s4).trans s5).trans s6).trans s7) _ _ e2
     have c7:=(((s5).trans s6).trans s7) _ _ e4
     have a7:=((s6).trans s7) _ _ e5
     have b7:=s7 _ _ e6
     have t7:=up1 _ _ e1
     have q0:=Int.emod_nonneg (how / 4) (show (5:Int)≠0 by decide)
     have q1:=Int.emod_lt_of_pos (how / 4) (show (0:Int)<5 by decide)
     obtain⟨v,o,h1,h2⟩:∃ v o,atI [V.non,.ref T1,.ref C,.ref A1,.ref A2] (how / 4%5)=some v/\Fi (upd H6 T2 (.tup [.non,.ref T1,.ref C,.ref A1,.ref A2])) v o:=by
      rcases (show how / 4%5=0\/how / 4%5=1\/how / 4%5=2\/how / 4%5=3\/how / 4%5=4 by omega) with e | e | e | e | e
      . exact ⟨.non,none,by rw [e];rfl,.inr rfl⟩
      . exact ⟨.ref T1,none,by rw [e];rfl,.inl ⟨T1,us,rfl,t7⟩⟩
      . exact ⟨.ref C,some (mss.map .ch++[.ch []]),by rw [e];rfl,C,_,rfl,c7,hP7.app (PapL.one (t:=.ch []) ⟨d,rfl,d7,by decide⟩),by simp;omega⟩
      . exact ⟨.ref A1,some ((mss.map .ch).take (us.length-1)),by rw [e];rfl,A1,_,rfl,a7,hP7.take _,by rw [List.length_take,List.length_map];omega⟩
      . exact ⟨.ref A2,some ((mss.map .ch).drop 1),by rw [e];rfl,A2,_,rfl,b7,hP7.drop _,by rw [List.length_drop,List.length_map];omega⟩
     exact ⟨_,rfl,_,_,rfl,rfl,⟨by decide,by decide⟩,_,_,rfl,rfl,(by show (0:Int)<5;decide),T2,_,_,v,rfl,rfl,.of Ac,h1,kq v o _ s17 h2⟩
   rintro _ _ ⟨rfl,rfl⟩
   obtain⟨u,hu,hPu⟩:=hP.at (i:=at0) (by rw [List.length_map];omega)
   obtain⟨m,hm,hmm⟩:∃ m,(mss.map PT.ch).getD at0 .bad=.ch m/\m.length<=50:=by
    have h1:at0<mss.length:=by omega
    refine⟨mss[at0],?_,h50 _ (List.getElem_mem h1)⟩
    rw [List.getD_eq_getElem?_getD,List.getElem?_map,List.getElem?_eq_getElem h1]
    rfl
   rw [hm] at hPu
   obtain⟨b,rfl,hb,_⟩:=hPu
   refine Aq (fun σ' H'=>∃ d:Addr,σ'=[some (.ref a),some (.ref l),some (.int p),some (.int how),some (.int (us.length:Int)),some (.int (at0:Int)),some (.int spot),some (.ref d),none]/\Same H H'/\H d=none/\H' d=some (.dK (cK m))) ?_ fun key=>?_
   rotate_left
   . exact ⟨_,rfl,_,rfl,l,us,_,_,rfl,rfl,.of hU,Cg hu,b,cK m,rfl,.inl hb,fun d hd=>key _ _ ⟨d,rfl,Same.new hd,hd,Ac⟩⟩
   rintro _ H1 ⟨d,rfl,s1,nd1,hd1⟩
   refine Aq (fun σ' H'=>∃ (v:V) (t:PT) (o8:Option V),σ'=[some (.ref a),some (.ref l),some (.int p),some (.int how),some (.int (us.length:Int)),some (.int (at0:Int)),some (.int spot),some v,o8]/\Same H H'/\PAt H' v t) ?_ fun key=>?_
   rotate_left
   . refine⟨_,rfl,_,_,rfl,rfl,(by show (0:Int)<4;decide),rfl,_,rfl,?_⟩
     refine ite2 (fun _=>?_) (fun _=>?_)
     . refine Aq (fun σ' H'=>∃ number:Int,σ'=[some (.ref a),some (.ref l),some (.int p),some (.int how),some (.int (us.length:Int)),some (.int (at0:Int)),some (.int spot),some (.ref d),some (.int number)]/\H1=H') ?_ fun key2=>?_
       rotate_left
       . exact ⟨_,rfl,a,ns,4,rfl,s1.seq hS,by decide,hl,key2 _ _ ⟨_,rfl,rfl⟩⟩
       rintro _ _ ⟨number,rfl,rfl⟩
       refine⟨_,rfl,_,rfl,_,_,rfl,rfl,_,rfl,_,_,rfl,rfl,⟨by decide,by decide⟩,_,_,rfl,rfl,(by show (0:Int)<100;decide),_,_,rfl,rfl,A7 (by simp),fun T2 hT2=>?_⟩
       have s2:=Same.new (o:=.tup [.int p,.int (p-1),.int 0,.int (number / 5%100-1),.int 1]) hT2
       have q0:=Int.emod_nonneg number (show (5:Int)≠0 by decide)
       have q1:=Int.emod_lt_of_pos number (show (0:Int)<5 by decide)
       obtain⟨w,hw⟩:∃ w:Int,atI [V.int p,.int (p-1),.int 0,.int (number / 5%100-1),.int 1] (number%5)=some (.int w):=by
        rcases (show number%5=0\/number%5=1\/number%5=2\/number%5=3\/number%5=4 by omega) with e | e | e | e | e<;>rw [e]<;>exact ⟨_,rfl⟩
       have hd2:=s2 _ _ hd1
       refine⟨_,rfl,_,_,rfl,rfl,(by show (0:Int)<5;decide),T2,_,_,_,rfl,rfl,.of Ac,hw,_,rfl,_,rfl,_,rfl,_,_,rfl,rfl,_,_,rfl,rfl,(by show (0:Int)<(us.length:Int)+2;omega),_,_,rfl,rfl,d,_,rfl,Qe hd2 (by omega),?_⟩
       have lp:=Zy m (spot%((us.length:Int)+2)-1) w
       exact key _ _ ⟨.ref d,.ch (putI m (spot%((us.length:Int)+2)-1) w),_,rfl,(s1.trans s2).turn nd1,d,rfl,Ac,by omega⟩
     obtain⟨u2,t2,hj,hj2⟩:∃ (u2:V) (t2:PT),atI us (spot%(us.length:Int))=some u2/\PAt H1 u2 t2:=by
      have q0:=Int.emod_nonneg spot (show (us.length:Int)≠0 by omega)
      have q1:=Int.emod_lt_of_pos spot np
      obtain⟨j,hj⟩:=Int.eq_ofNat_of_zero_le q0
      rw [hj] at q1 ⊢
      obtain⟨u2,e1,e2⟩:=hP.at (i:=j) (by rw [List.length_map];omega)
      exact ⟨u2,_,Cg e1,e2.same s1⟩
     refine⟨_,rfl,_,_,rfl,rfl,⟨by decide,by decide⟩,_,_,rfl,rfl,(by show (0:Int)<4;decide),rfl,_,rfl,?_⟩
     refine ite2 (fun g1=>?_) (fun g1=>?_)
     . have g2:how / 4%4=0:=by simpa using g1
       refine⟨_,rfl,d,_,rfl,hd1,_,_,rfl,rfl,_,rfl,?_⟩
       rw [Dg]
       refine ite2 (fun g3=>?_) (fun g3=>?_)
       . have hml:0<m.length:=by
          have:(0:Int)<(m.length:Int):=by simpa using g3
          omega
         have hk:(cK m).map (·.1)=(m.map (·.1)).map (fun k=>(.inl k:Key)):=by
          unfold cK
          rw [List.map_map,List.map_map]
          rfl
         refine⟨_,rfl,d,rfl,.inl ⟨_,.inl hd1⟩,_,rfl,d,m.map (·.1),cK m,rfl,hd1,hk,by rw [List.length_map];omega,fun sm hperm hsort D hD=>?_⟩
         have s2:Same H1 (upd H1 D (.lst (sm.map V.int))):=Same.new hD
         have eD:upd H1 D (.lst (sm.map V.int)) D=some (.lst (sm.map V.int)):=Ac
         generalize upd H1 D (.lst (sm.map V.int))=H2 at s2 eD ⊢
         have hd2:=s2 _ _ hd1
         have hsl:sm.length=m.length:=by rw [hperm.length_eq,List.length_map]
         have mp:(0:Int)<(m.length:Int):=by omega
         have q0:=Int.emod_nonneg spot (show (m.length:Int)≠0 by omega)
         have q1:=Int.emod_lt_of_pos spot mp
         obtain⟨k,hk1,hk2⟩:∃ k:Int,atI (sm.map V.int) (spot%(m.length:Int))=some (.int k)/\k∈m.map (·.1):=by
          obtain⟨j,hj⟩:=Int.eq_ofNat_of_zero_le q0
          rw [hj] at q1 ⊢
          have hjl:j<sm.length:=by omega
          refine⟨sm[j],Cg ?_,hperm.mem_iff.mp (List.getElem_mem hjl)⟩
          rw [List.getElem?_map,List.getElem?_eq_getElem hjl]
          rfl
         have hv:(valV (cK m) (Sum.inl k)).isSome=true:=by
          rw [←Ti]
          obtain⟨q,hq,e⟩:=List.mem_map.mp hk2
          refine List.any_eq_true.mpr ⟨(Sum.inl q.1,.int q.2),?_,decide_eq_true (by rw [←e])⟩
          unfold cK
          exact List.mem_map.mpr ⟨q,hq,rfl⟩
         obtain⟨v0,hv0⟩:=Option.isSome_iff_exists.mp hv
         refine⟨_,rfl,_,rfl,d,_,rfl,hd2,_,_,rfl,rfl,?_,D,_,_,.int k,rfl,rfl,.of eD,?_,cK m,.inl k,v0,hd2,rfl,hv0,?_⟩
         . rw [Dg];exact mp
         . rw [Dg];exact hk1
         rw [Ap2]
         have ld:=n6 m k
         exact key _ _ ⟨.ref d,.ch (Oi m k),none,rfl,(s1.trans s2).turn nd1,d,rfl,Ac,by omega⟩
       . refine⟨_,rfl,_,_,rfl,rfl,⟨by decide,by decide⟩,_,_,rfl,rfl,(by show (0:Int)<4;decide),rfl,_,rfl,?_⟩
         refine ifN (by show ¬decide (V.int (how / 4%4)=V.int 1)=true;rw [g2];decide) ?_
         exact ⟨_,rfl,_,rfl,_,rfl,_,_,rfl,rfl,np,l,us,_,_,rfl,rfl,.of (s1 _ _ hU),hj,key _ _ ⟨_,t2,none,rfl,s1,hj2⟩⟩
     refine ifN (by decide) ?_
     refine⟨_,rfl,_,_,rfl,rfl,⟨by decide,by decide⟩,_,_,rfl,rfl,(by show (0:Int)<4;decide),rfl,_,rfl,?_⟩
     refine ite2 (fun _=>?_) (fun _=>?_)
     rotate_left
     . exact ⟨_,rfl,_,rfl,_,rfl,_,_,rfl,rfl,np,l,us,_,_,rfl,rfl,.of (s1 _ _ hU),hj,key _ _ ⟨_,t2,none,rfl,s1,hj2⟩⟩
     refine⟨_,rfl,A7 (by simp),fun L hL=>?_⟩
     have s2:Same H1 (upd H1 L (.lst [.int (at0:Int)])):=Same.new hL
     have e2:upd H1 L (.lst [.int (at0:Int)]) L=some (.lst [.int (at0:Int)]):=Ac
     generalize upd H1 L (.lst [.int (at0:Int)])=H2 at s2 e2 ⊢
     refine fun d1 hd2=>?_
     refine⟨_,rfl,Ac,[(.inl (at0:Int),.bl true)],rfl,(by show (1:Nat)<=15;decide),?_⟩
     have s3:Same H2 (upd (upd H2 d1 (.dK [])) d1 (.dK (C8 [] [(.inl (at0:Int),.bl true)]))):=(Same.new hd2).turn hd2
     have e3:upd (upd H2 d1 (.dK [])) d1 (.dK (C8 [] [(.inl (at0:Int),.bl true)])) d1=some (.dK [(.inl (at0:Int),.bl true)]):=Ac
     generalize upd (upd H2 d1 (.dK [])) d1 (.dK (C8 [] [(.inl (at0:Int),.bl true)]))=H3 at s3 e3 ⊢
     refine fun d2 hd3=>?_
     have s4:Same H3 (upd H3 d2 (.dK [])):=Same.new hd3
     have e4:upd H3 d2 (.dK []) d2=some (.dK (cK [])):=Ac
     generalize upd H3 d2 (.dK [])=H4 at s4 e4 ⊢
     refine fun d3 hd4=>?_
     refine⟨_,_,rfl,Ac,.inr (.inl ⟨true,rfl⟩),fun ob hsys hOb=>?_⟩
     have s5:Same H4 (upd (upd H4 d3 (.dK [])) d3 (XO d3 ob)):=(Same.new hd4).turn hd4
     have e5:Vw (upd (upd H4 d3 (.dK [])) d3 (XO d3 ob)) d3 [(.bl true,.int 1)]:=⟨hsys,ob,Ac,hOb⟩
     generalize upd (upd H4 d3 (.dK [])) d3 (XO d3 ob)=H5 at s5 e5 ⊢
     refine fun d4 hd5=>?_
     refine⟨_,rfl,Ac,[(.inl (at0:Int),.non)],rfl,(by show (1:Nat)<=15;decide),?_⟩
     have s6:Same H5 (upd (upd H5 d4 (.dK [])) d4 (.dK (C8 [] [(.inl (at0:Int),.non)]))):=(Same.new hd5).turn hd5
     have e6:upd (upd H5 d4 (.dK [])) d4 (.dK (C8 [] [(.inl (at0:Int),.non)])) d4=some (.dK [(.inl (at0:Int),.non)]):=Ac
     generalize upd (upd H5 d4 (.dK [])) d4 (.dK (C8 [] [(.inl (at0:Int),.non)]))=H6 at s6 e6 ⊢
     refine⟨A7 (by simp),fun T2 hT2=>?_⟩
     have s7:Same H6 (upd H6 T2 (.tup [.non,.ref L,.ref d1,.ref d2,.ref d3,.ref d4,.str ""])):=Same.new hT2
     have s17:=(((((s1.trans s2).trans s3).trans s4).trans s5).trans s6).trans s7
     have s37:=(((s3.trans s4).trans s5).trans s6).trans s7
     have s47:=((s4.trans s5).trans s6).trans s7
     have s57:=(s5.trans s6).trans s7
     have s67:=s6.trans s7
     have q0:=Int.emod_nonneg spot (show (7:Int)≠0 by decide)
     have q1:=Int.emod_lt_of_pos spot (show (0:Int)<7 by decide)
     obtain⟨v,tt,g4,g5⟩:∃ (v:V) (tt:PT),atI [V.non,.ref L,.ref d1,.ref d2,.ref d3,.ref d4,.str ""] (spot%7)=some v/\PAt (upd H6 T2 (.tup [.non,.ref L,.ref d1,.ref d2,.ref d3,.ref d4,.str ""])) v tt:=by
      rcases (show spot%7=0\/spot%7=1\/spot%7=2\/spot%7=3\/spot%7=4\/spot%7=5\/spot%7=6 by omega) with e | e | e | e | e | e | e
      . exact ⟨.non,.bad,by rw [e];rfl,Ap5 True.intro⟩
      . exact ⟨.ref L,.bad,by rw [e];rfl,A45 (s37 _ _ e2)⟩
      . exact ⟨.ref d1,.bad,by rw [e];rfl,Ax4 (s47 _ _ e3) True.intro rfl⟩
      . exact ⟨.ref d2,.ch [],by rw [e];rfl,d2,rfl,s57 _ _ e4,by decide⟩
      . exact ⟨.ref d3,.bad,by rw [e];rfl,A44 (Vw.same s67 e5) True.intro⟩
      . exact ⟨.ref d4,.bad,by rw [e];rfl,Ax4 (s7 _ _ e6) True.intro rfl⟩
      . exact ⟨.str "",.bad,by rw [e];rfl,Ap5 True.intro⟩
     exact ⟨_,rfl,_,_,rfl,rfl,(by show (0:Int)<7;decide),T2,_,_,v,rfl,rfl,.of Ac,g4,key _ _ ⟨v,tt,none,rfl,s17,g5⟩⟩
   rintro _ H2 ⟨v,t,o8,rfl,s2,hv⟩
   have hU2:=s2 _ _ hU
   have hP2:=hP.same s2
   refine⟨_,rfl,_,rfl,_,rfl,l,us,rfl,.of hU2,fun A1 hA1=>?_⟩
   rw [Oz]
   have s3:Same H2 (upd H2 A1 (.lst (us.take at0))):=Same.new hA1
   have e3:upd H2 A1 (.lst (us.take at0)) A1=some (.lst (us.take at0)):=Ac
   generalize upd H2 A1 (.lst (us.take at0))=H3 at s3 e3 ⊢
   refine⟨_,rfl,A7 (by simp),fun L hL=>?_⟩
   have s4:Same H3 (upd H3 L (.lst [v])):=Same.new hL
   have e4:upd H3 L (.lst [v]) L=some (.lst [v]):=Ac
   generalize upd H3 L (.lst [v])=H4 at s4 e4 ⊢
   refine⟨A1,L,_,_,rfl,rfl,.of (s4 _ _ e3),.of e4,A7 (by rw [List.length_take];simp;omega),fun C1 hC1=>?_⟩
   have s5:Same H4 (upd H4 C1 (.lst (us.take at0++[v]))):=Same.new hC1
   have e5:upd H4 C1 (.lst (us.take at0++[v])) C1=some (.lst (us.take at0++[v])):=Ac
   generalize upd H4 C1 (.lst (us.take at0++[v]))=H5 at s5 e5 ⊢
   have s25:=(s3.trans s4).trans s5
   refine⟨_,rfl,_,rfl,_,_,rfl,rfl,_,rfl,l,us,rfl,.of (s25 _ _ hU2),fun A2 hA2=>?_⟩
   rw [show ((at0:Int)+1)=((at0+1:Nat):Int) by omega,Lx]
   have s6:Same H5 (upd H5 A2 (.lst (us.drop (at0+1)))):=Same.new hA2
   have e6:upd H5 A2 (.lst (us.drop (at0+1))) A2=some (.lst (us.drop (at0+1))):=Ac
   generalize upd H5 A2 (.lst (us.drop (at0+1)))=H6 at s6 e6 ⊢
   refine⟨C1,A2,_,_,rfl,rfl,.of (s6 _ _ e5),.of e6,A7 (by rw [List.length_append,List.length_take,List.length_drop];simp;omega),fun C2 hC2=>?_⟩
   have s7:Same H6 (upd H6 C2 (.lst (us.take at0++[v]++us.drop (at0+1)))):=Same.new hC2
   have s27:=(s25.trans s6).trans s7
   refine kq (.ref C2) (some ((mss.map .ch).take at0++[t]++(mss.map .ch).drop (at0+1))) _ (s2.trans s27) ⟨C2,_,rfl,Ac,?_,?_⟩
   . have hP3:=hP2.same s27
     exact ((hP3.take at0).app (.one (hv.same s27))).app (hP3.drop (at0+1))
   . rw [List.length_append,List.length_append,List.length_take,List.length_drop,List.length_map]
     simp
     omega
abbrev Ba:Stmt:=top 9
theorem Jy:FnScope ["shape","thing","level"] ["shape","thing","level"] (Ah Ba):=⟨rfl,rfl,rfl,by decide +kernel,rfl,by decide +kernel,by decide +kernel⟩
theorem J2 {f:Addr}{fd:FuncData} (F:Fun K "is_place_of_level" "is_place_of_level" Ba f fd) (T:Txt K mg Ad) (A5:Has P w K mg base "is_whole_below" ["thing","bound"] 2 (Bv K)) (Cj:Has P w K mg base "level_of" ["piece"] 1 (Dh K)):FnOk P w K mg base CX0 3 f fd ["shape","thing","level"] (Bt K):=by
 refine F.ok Jy (fun vs H Q E h=>?_) (fun Bo A outer s H vs Q E hr h=>?_)
 . obtain⟨a,x,d,l,xs,rfl,hL,hx,k⟩:=h
   rfl
 . obtain⟨a,x,d,l,xs,rfl,hL,hx,k⟩:=h
   refine⟨_,(Ai (At (N3 (Am A5 hr (by rfl) (Ab (pv 1) (Ab (An (Ap (K:=K)) (by rfl) T.n_len PySem.boot_len (Ab (pv 0) Ag)) Ag))) (N2 (Ij Fr (Am Cj hr (by rfl) (Ab (Cc (Bi (K:=K)) (pv 0) (pv 1) (fun _ _=>rfl)) Ag)) (pv 2) (Ax _)))))),?_⟩
   obtain⟨us,hq,hul⟩:=LT.len hL
   refine⟨_,rfl,_,rfl,a,us,rfl,.inl hq,x,d,_,rfl,hx,_,rfl,?_⟩
   rw [hul]
   refine ite2 (fun e=>?_) (fun e=>?_)
   . obtain⟨i,rfl⟩:∃ i,d=.int i:=by cases d<;>first | exact ⟨_,rfl⟩ | (exfalso;simp [Qy] at e)
     cases (show x=.int i from hx)
     have e':(decide (0<=i)&&decide (i<(xs.length:Int)))=true:=e
     have h0:0<=i/\i<(xs.length:Int):=by simpa using e'
     obtain⟨us',v,hq',hv,tv⟩:=LT.get hL h0.1 h0.2
     refine⟨_,rfl,_,rfl,a,us',i,v,rfl,rfl,hq',hv,v,_,rfl,.inr tv,_,rfl,rfl,?_⟩
     have e2:Bc xs (.int i) l=decide (levI (nums (xs.getD i.toNat [])).length=l):=by
      show (decide (0<=i)&&decide (i<(xs.length:Int))&&decide (levI (xs.getD i.toNat []).length=l))=_
      rw [e']
      simp [nums]
     rw [e2] at k
     have e3:decide (V.int (levI (nums (xs.getD i.toNat [])).length)=V.int l)=decide (levI (nums (xs.getD i.toNat [])).length=l):=by
      by_cases z:levI (nums (xs.getD i.toNat [])).length=l
      . simp [z]
      . simp [z]
     rw [e3]
     exact k
   . have e2:Bc xs d l=false:=by
      cases d with
      | int i =>
        have e':¬(decide (0<=i)&&decide (i<(xs.length:Int)))=true:=e
        show (decide (0<=i)&&decide (i<(xs.length:Int))&&decide (levI (xs.getD i.toNat []).length=l))=false
        rw [Bool.eq_false_iff.mpr e']
        rfl
      | _=>rfl
     rw [e2] at k
     exact k
abbrev Er:Stmt:=top 34
theorem Ys:FnScope ["thing"] ["thing"] (Ah Er):=⟨rfl,rfl,rfl,by decide +kernel,rfl,by decide +kernel,by decide +kernel⟩
theorem Zb {f:Addr}{fd:FuncData} (F:Fun K "is_prime" "is_prime" Er f fd) (T:Txt K mg Ad) (A5:Has P w K mg base "is_whole_below" ["thing","bound"] 2 (Bv K)):FnOk P w K mg base CX0 3 f fd ["thing"] (O2 K):=by
 refine F.ok Ys (fun vs H Q E h=>?_) (fun Bo A outer s H vs Q E hr h=>?_)
 . obtain⟨p,rfl,hP,h98,k⟩:=h
   rfl
 . obtain⟨p,rfl,hP,h98,k⟩:=h
   obtain⟨t_PRIME_BOUND,c_PRIME_BOUND⟩:=T.x_PRIME_BOUND
   refine⟨_,(Af (Bh (PW.pt (Lh (Df (De (Am A5 hr (by rfl) (Ab (pv 0) (Ab (Ue (v:=.int 98) (by rfl) c_PRIME_BOUND ⟨_,rfl⟩) Ag))))) (Ih (Ao Oh (pv 0) Aj (Ax _))))) (Ai (At E1)) Aw)
    (Ai (At (An (Gg (K:=K) (by rfl)) (by rfl) T.n_all Ji (Ab (Ct (N':=["number","thing"]) (cap:=[none,some 0]) (by rfl) (by kernel_rfl) (Ah2 (by rfl) T.n_range (Ab Aj (Ab (pv 0) Ag))) (fun _ _ _ _=>(Au (i:=0) Be2 (by rfl) (by first | exact Or.inl rfl | exact Or.inr rfl))) (fun _ _ _ _=>Cs) (fun _ _ _ _=>(Ij Lk (A0 Bs (pv 1) (pv 0)) Aj (Ax _)))) Ag))))),?_⟩
   have h2:=hP.two
   refine⟨_,rfl,.int p,.int p,98,rfl,rfl,_,rfl,?_⟩
   have hb:Qy (.int p) 98=true:=by
    show (decide (0<=p)&&decide (p<98))=true
    rw [decide_eq_true (by omega),decide_eq_true h98]
    rfl
   rw [hb]
   refine ifN (by simp) ?_
   refine⟨_,rfl,_,_,rfl,rfl,_,rfl,?_⟩
   refine ifN (by simp;omega) ?_
   refine⟨_,rfl,_,_,rfl,⟨by decide,by decide,by omega,by omega⟩,fun D hD=>?_⟩
   refine Hh (fun j ys τ H1=>j<=(p-2).toNat/\Same H H1/\H1 D=some (.lst ys)/\(∃ bs:List Bool,ys=bs.map V.bl/\bs.length=j/\bs.all id=true)/\∃ o,τ=[o,some (.int p)])
    ⟨Nat.zero_le _,Same.new hD,Ac,⟨[],rfl,rfl,rfl⟩,none,rfl⟩ ?_ ?_
   . rintro j ys τ H1 hj ⟨_,s1,hD1,⟨bs,rfl,hbl,hba⟩,o,rfl⟩
     have hj2:j<(p-2).toNat:=by omega
     refine⟨_,rfl,_,rfl,_,_,rfl,rfl,(by show (0:Int)<2+(j:Int);omega),rfl,?_⟩
     refine⟨hD1,C5 (by rw [List.length_map];omega),by omega,s1.turn hD,Ac,⟨bs++[!decide (V.int (p%(2+(j:Int)))=V.int 0)],?_,by simp [hbl],?_⟩,_,rfl⟩
     . rw [List.map_append]
       rfl
     . rw [List.all_append,hba]
       have:=hP.free (2+(j:Int)) (by omega) (by omega)
       simp [this]
   . rintro ys τ H1 ⟨_,s1,hD1,⟨bs,rfl,hbl,hba⟩,_⟩
     refine⟨D,bs,rfl,.of hD1,?_⟩
     rw [hba]
     exact k _ s1
abbrev Bf:Stmt:=U6 (top 41) 2
theorem Mm:FnScope ["self","sheet","edge","birth","ender","by"] ["self","sheet","edge"] (Ah Bf):=⟨rfl,rfl,rfl,by decide +kernel,rfl,by decide +kernel,by decide +kernel⟩
theorem Bx:(["self","sheet","edge","birth","ender","by"]:List Str).Nodup:=by decide +kernel
theorem Mu {f:Addr}{fd:FuncData} (F:Fun K "settled" "Growth.settled" Bf f fd) (T:Txt K mg Ad) (Cn:Has P w K mg base "counted" ["chain","prime"] 1 (F9 K)) (G0:Has P w K mg base "turned_over" ["number","prime"] 2 (Tn K)) (p8:Has P w K mg base "plus" ["one","other"] 2 (Yd K)) (U7:Has P w K mg base "times" ["number","chain"] 1 (Tl K)):FnOk P w K mg base CX0 3 f fd ["self","sheet","edge"] (Ie K Ad):=by
 refine F.ok Mm (fun vs H Q E h=>?_) (fun Bo A outer s H vs Q E hr h=>?_)
 . obtain⟨g,pc,sh,ed,en,sa,ea,p,xs,es,ss,bs,ms,me,l,pq,rfl,x,hs,he,nse,nee,oks,oke,ks,ke,shx,nwk,hlq,k⟩:=h
   rfl
 . obtain⟨g,pc,sh,ed,en,sa,ea,p,xs,es,ss,bs,ms,me,l,pq,rfl,x,hs,he,nse,nee,oks,oke,ks,ke,shx,nwk,hlq,k⟩:=h
   have hu8:(A.deeper (PyProof.Rows.envOfC "Growth.settled" (Ah Bf) s.heap.objs.size f Bo)).units+8<cLine:=by have:=hr.units;omega
   refine⟨_,(Af (l8 PassesOwn.never (PW.pt (l7 (Ao z8 (An Jh (by rfl) T.n_len PySem.boot_len (Ab (pv 2) Ag)) Aj (Ax _)) (T5 (Ao (A81 (u1 hu8)) (An (Jg (by rfl)) (by rfl) T.n_max Da (Ab (pv 2) Ag)) (B8 (K:=K) (pv 0)) rfl)))) (Af (Ar (i:=3) Bx (by rfl) (by first | exact Or.inl rfl | exact Or.inr rfl) (An (Jg (by rfl)) (by rfl) T.n_max Da (Ab (pv 2) Ag)))
    (Af (Ar (i:=4) Bx (by rfl) (by first | exact Or.inl rfl | exact Or.inr rfl) (Ez (u1 hu8) (B8 (K:=K) (pv 0)) (pv 3) (fun _ _=>rfl)))
    (Af (Ar (i:=5) Bx (by rfl) (by first | exact Or.inl rfl | exact Or.inr rfl) (A0 op_mulX (Ah4 V0 (Ez (u1 hu8) (pv 2) (pv 3) (fun _ _=>rfl))) (Am G0 hr (by rfl) (Ab (Ez (u1 hu8) (Cc (Bi (K:=K)) (B8 (K:=K) (pv 0)) (pv 4) (fun _ _=>rfl)) (pv 3) (fun _ _=>rfl)) (Ab (B8 (K:=K) (pv 0)) Ag)))))
    (Af (Ar (i:=1) Bx (by rfl) (by first | exact Or.inl rfl | exact Or.inr rfl) (Am Cn hr (by rfl) (Ab (Am p8 hr (by rfl) (Ab (pv 1) (Ab (Am U7 hr (by rfl) (Ab (pv 5) (Ab (Cc (Bi (K:=K)) (B8 (K:=K) (pv 0)) (pv 4) (fun _ _=>rfl)) Ag))) Ag))) (Ab (B8 (K:=K) (pv 0)) Ag))))
    (Ai (Ar (i:=2) Bx (by rfl) (by first | exact Or.inl rfl | exact Or.inr rfl) (Am Cn hr (by rfl) (Ab (Am p8 hr (by rfl) (Ab (pv 2) (Ab (Am U7 hr (by rfl) (Ab (pv 5) (Ab (Cc (Bi (K:=K)) (B8 (K:=K) (pv 0)) (pv 4) (fun _ _=>rfl)) Ag))) Ag))) (Ab (B8 (K:=K) (pv 0)) Ag))))))))))
    (Ai (At (Ge (Ab (pv 1) (Ab (pv 2) Ag)))))),?_⟩
   obtain⟨dx,fs,hg,l1,l2,l3,l4,l5,lm⟩:=x.ob
   have hp2:=x.pr.1.two
   have hp98:=x.pr.2
   have n40:=x.gw.n40
   refine Aq (fun σ' H'=>∃ (s' e':Addr) (ms' me':Ms) (o3 o4 o5:Option V),σ'=[some (.ref g),some (.ref s'),some (.ref e'),o3,o4,o5]/\Same H H'/\H' s'=some (.dK (cK ms'))/\H' e'=some (.dK (cK me'))/\s'≠en/\e'≠en/\OkM p ms'/\OkM p me'/\(∀ x∈Ay ms',0<=x/\x<=(xs.length:Int))/\(∀ x∈Ay me',0<=x/\x<(xs.length:Int)/\(xs.getD x.toNat []).length-1+1=l)/\Ol p xs pq ms' me'/\(∀ b,Top me' b->Bd bs b=none)) ?_ fun key=>?_
   rotate_left
   . refine⟨fun m σ' H'=>∃ (s' e':Addr) (ms' me':Ms) (o3 o4 o5:Option V),σ'=[some (.ref g),some (.ref s'),some (.ref e'),o3,o4,o5]/\Same H H'/\H' s'=some (.dK (cK ms'))/\H' e'=some (.dK (cK me'))/\s'≠en/\e'≠en/\OkM p ms'/\OkM p me'/\(∀ x∈Ay ms',0<=x/\x<=(xs.length:Int))/\(∀ x∈Ay me',0<=x/\x<(xs.length:Int)/\(xs.getD x.toNat []).length-1+1=l)/\Ol p xs pq ms' me'/\∀ x∈Ay me',x<(m:Int),⟨xs.length,sa,ea,ms,me,none,none,none,rfl,Same.refl H,hs,he,nse,nee,oks,oke,ks,ke,nwk,fun x hx=>(ke x hx).2.1⟩,?_⟩
     rintro m σ G ⟨s',e',ms',me',o3,o4,o5,rfl,g1,hs',he',ns',ne',ok1,ok2,k1,k2,hem,hlt⟩
     have xg:=x.same g1
     have hgG:=g1 _ _ hg
     refine⟨_,rfl,e',cK me',rfl,he',_,_,rfl,rfl,_,rfl,?_⟩
     by_cases hz:me'=[]
     . subst hz
       refine ite2 (fun h1=>absurd h1 (by simp [cK])) (fun _=>?_)
       refine ifN (by simp) ?_
       exact key _ _ ⟨s',e',ms',[],o3,o4,o5,rfl,g1,hs',he',ns',ne',ok1,ok2,k1,k2,hem,fun b hb=>(Top.no hb).elim⟩
     have hlen:0<me'.length:=List.length_pos_iff.mpr hz
     refine ifP (by rw [Dg];simpa using hlen) ?_
     refine⟨_,rfl,e',Ay me',cK me',rfl,he',Z3 me',Z2 hz,fun b hb1 hb2=>?_⟩
     have tb:Top me' b:=⟨hb1,hb2⟩
     refine⟨_,rfl,g,Ad,dx,fs,_,rfl,hgG,T.cl_Growth,T.na_Growth_enders,l5,en,cK bs,.inl b,rfl,xg.ens,rfl,_,rfl,?_⟩
     cases hlk:Bd bs b with
     | none =>
       refine ifN (by rw [Xw,hlk];simp) ?_
       exact key _ _ ⟨s',e',ms',me',o3,o4,o5,rfl,g1,hs',he',ns',ne',ok1,ok2,k1,k2,hem,fun b' hb'=>by rw [Top.one hb' tb];exact hlk⟩
     | some en0 =>
       refine ifP (by rw [Xw,hlk];rfl) ?_
       obtain⟨i,mi,rfl,hi,ti⟩:=(x.gw.bls b en0).mp hlk
       have hil:i<xs.length:=by rw [←x.gw.le];exact (List.getElem?_eq_some_iff.mp hi).1
       obtain⟨oki,kki⟩:=x.gw.eok i mi hi
       obtain⟨ds,d,hed,hdi,hd,nde⟩:=xg.eds.get hi
       obtain⟨si,hsi⟩:∃ si,ss[i]?=some si:=⟨_,List.getElem?_eq_getElem (by rw [x.gw.ls];exact hil)⟩
       obtain⟨okS,kS⟩:=x.gw.sok i si hsi
       obtain⟨cs,c,hsh,hci,hc,nc⟩:=xg.shs.get hsi
       obtain⟨q1,q2,q3⟩:=tb.look ok2
       obtain⟨r1,r2,r3⟩:=ti.look oki
       have hatd:atI (ds.map V.ref) (i:Int)=some (.ref d):=Cg (by rw [List.getElem?_map,hdi];rfl)
       have hatc:atI (cs.map V.ref) (i:Int)=some (.ref c):=Cg (by rw [List.getElem?_map,hci];rfl)
       have kS40:∀ x∈Ay si,0<=x/\x<=40:=fun x hx=>by have:=kS x hx;omega
       have kI40:∀ x∈Ay mi,0<=x/\x<=40:=fun x hx=>by have:=kki x hx;omega
       have k140:∀ x∈Ay ms',0<=x/\x<=40:=fun x hx=>by have:=k1 x hx;omega
       have k240:∀ x∈Ay me',0<=x/\x<=40:=fun x hx=>by have:=k2 x hx;omega
       refine⟨fun σ' H'=>∃ (s' e':Addr) (ms' me':Ms) (o3 o4 o5:Option V),σ'=[some (.ref g),some (.ref s'),some (.ref e'),o3,o4,o5]/\Same H H'/\H' s'=some (.dK (cK ms'))/\H' e'=some (.dK (cK me'))/\s'≠en/\e'≠en/\OkM p ms'/\OkM p me'/\(∀ x∈Ay ms',0<=x/\x<=(xs.length:Int))/\(∀ x∈Ay me',0<=x/\x<(xs.length:Int)/\(xs.getD x.toNat []).length-1+1=l)/\Ol p xs pq ms' me'/\∀ x∈Ay me',x<b,?_,?_⟩
       . rintro σ' G' ⟨s2,e2,ms2,me2,p3,p4,p5,rfl,t1,t2,t3,t4,t5,t6,t7,t8,t9,t10,t11⟩
         have b1:=hlt b tb.mem
         have b0:=(k2 b tb.mem).1
         exact ⟨b.toNat,by omega,s2,e2,ms2,me2,p3,p4,p5,rfl,t1,t2,t3,t4,t5,t6,t7,t8,t9,t10,fun x hx=>by have:=t11 x hx;omega⟩
       refine⟨_,rfl,e',Ay me',cK me',rfl,he',Z3 me',Z2 hz,fun b' hb1' hb2'=>?_⟩
       obtain rfl:b'=b:=Top.one ⟨hb1',hb2'⟩ tb
       refine⟨_,rfl,g,Ad,dx,fs,_,rfl,hgG,T.cl_Growth,T.na_Growth_enders,l5,_,rfl,en,.int (i:Int),rfl,Hg (.inl xg.ens) hlk,?_⟩
       refine⟨_,rfl,_,rfl,e',.int (getI me' b'),rfl,Hg (.inl he') q1,_,rfl,?_⟩
       refine⟨_,rfl,g,Ad,dx,fs,_,rfl,hgG,T.cl_Growth,T.na_Growth_edges,l4,_,rfl,ed,_,_,.ref d,rfl,rfl,.of hed,hatd,_,rfl,d,.int (getI mi b'),rfl,Hg (.inl hd) r1,_,rfl,g,Ad,dx,fs,_,rfl,hgG,T.cl_Growth,T.na_Growth_prime,l1,getI mi b',p,rfl,x.pr.1,x.pr.2,ndvd r2 r3,fun f G1 g2 f0 f1 hdv=>?_⟩
       refine⟨_,_,rfl,rfl,Wt (by omega) (by omega),?_⟩
       have hn:-(10000:Int) < -(getI me' b')*f/\-(getI me' b')*f<=0:=Aq6 q2 q3 f0 f1 hp98
       have ss1:=Yp (by omega) ok2 oki tb ti hdv
       have ss2:=Xl (p:=p) (n:=-(getI me' b')*f) (by omega) ok1 okS
       generalize hnn:-(getI me' b')*f=n at hn ss1 ss2
       have hsG:=g2 _ _ hs'
       have hcG:=g2 _ _ hc
       refine⟨_,rfl,_,rfl,_,rfl,g,Ad,dx,fs,_,rfl,g2 _ _ hgG,T.cl_Growth,T.na_Growth_sheets,l3,_,rfl,sh,_,_,_,rfl,rfl,.of (g2 _ _ hsh),hatc,n,c,si,(by rw [←hnn]<;>rfl),g2 _ _ hc,?_,fun q hq=>Wt (by omega) (by omega),fun TC1 GTC1 hTC1 gTC1 eTC1=>?_⟩
       . have:=Fh okS.nd kS40
         omega
       have ltC1:(A8 n si).length<=41:=Nat.le_trans (V2 ..) (Fh okS.nd kS40)
       have lbC1:ms'.length<=41:=Fh ok1.nd k140
       have lpC1:=Ou (A8 n si) ms'
       have ntC1:nd (A8 n si):=Op okS.nd
       obtain⟨npC1,_,_,_⟩:=K0 (A8 n si) ms' ok1.nd ok1.nz ntC1
       refine⟨s',TC1,ms',A8 n si,rfl,.inl (gTC1 _ _ (g2 _ _ hs')),eTC1,by omega,by omega,fun PC1 GPC1 hPC1 gPC1 ePC1=>?_⟩
       have gC1:=(g2.trans gTC1).trans gPC1
       refine⟨_,rfl,g,Ad,dx,fs,_,rfl,gC1 _ _ hgG,T.cl_Growth,T.na_Growth_prime,l1,PC1,_,p,rfl,ePC1,by omega,npC1,by omega,fun C1 GC1 hC1 ggC1 eC1=>?_⟩
       have g3:=gC1.trans ggC1
       refine⟨_,rfl,_,rfl,_,rfl,g,Ad,dx,fs,_,rfl,g3 _ _ hgG,T.cl_Growth,T.na_Growth_edges,l4,_,rfl,ed,_,_,_,rfl,rfl,.of (g3 _ _ hed),hatd,n,d,mi,(by rw [←hnn]<;>rfl),g3 _ _ hd,?_,fun q hq=>Wt (by omega) (by omega),fun TC2 GTC2 hTC2 gTC2 eTC2=>?_⟩
       . have:=Fh oki.nd kI40
         omega
       have ltC2:(A8 n mi).length<=41:=Nat.le_trans (V2 ..) (Fh oki.nd kI40)
       have lbC2:me'.length<=41:=Fh ok2.nd k240
       have lpC2:=Ou (A8 n mi) me'
       have ntC2:nd (A8 n mi):=Op oki.nd
       obtain⟨npC2,_,_,_⟩:=K0 (A8 n mi) me' ok2.nd ok2.nz ntC2
       refine⟨e',TC2,me',A8 n mi,rfl,.inl (gTC2 _ _ (g3 _ _ he')),eTC2,by omega,by omega,fun PC2 GPC2 hPC2 gPC2 ePC2=>?_⟩
       have gC2:=(g3.trans gTC2).trans gPC2
       refine⟨_,rfl,g,Ad,dx,fs,_,rfl,gC2 _ _ hgG,T.cl_Growth,T.na_Growth_prime,l1,PC2,_,p,rfl,ePC2,by omega,npC2,by omega,fun C2 GC2 hC2 ggC2 eC2=>?_⟩
       have g4:=gC2.trans ggC2
       have en1:=gC1 _ _ xg.ens
       have en2:=gC2 _ _ xg.ens
       have gg1:=((gTC2.trans gPC2).trans ggC2)
       refine⟨C1,C2,_,_,_,_,_,rfl,g1.trans g4,gg1 _ _ eC1,eC2,(Al en1 hC1).symm,(Al en2 hC2).symm,ss2.1,ss1.1,fun y hy=>?_,fun y hy=>?_,hem.step hp2 x.gw shx hsi hi ok1 ok2 (by have v:=(kki b' ti.mem).2.2;have w:=(k2 b' tb.mem).2.2;omega),fun y hy=>(ss1.2 y hy).1⟩
       . rcases ss2.2 y hy with z | z
         . exact k1 y z
         . have:=kS y z
           omega
       . rcases (ss1.2 y hy).2 with z | z
         . exact k2 y z
         . obtain⟨u1,u2,u3⟩:=kki y z
           obtain⟨v1,v2,v3⟩:=kki b' ti.mem
           obtain⟨w1,w2,w3⟩:=k2 b' tb.mem
           exact ⟨u1,by omega,by omega⟩
   rintro _ G ⟨s',e',ms',me',o3,o4,o5,rfl,g1,hs',he',ns',ne',ok1,ok2,k1,k2,hem,hno⟩
   refine⟨_,rfl,_,rfl,A7 (by simp),fun t ht=>?_⟩
   have st:Same G (upd G t (.tup [.ref s',.ref e'])):=Same.new ht
   exact k t s' e' ms' me' _ (g1.trans st) Ac (st _ _ hs') (st _ _ he') ns' ne' ok1 ok2 k1 k2 hno hem
abbrev B7:Stmt:=U6 (top 41) 5
theorem Pa:FnScope ["self","place"] ["self","place"] (Ah B7):=⟨rfl,rfl,rfl,by decide +kernel,rfl,by decide +kernel,by decide +kernel⟩
theorem Pl {f:Addr}{fd:FuncData} (F:Fun K "paper" "Growth.paper" B7 f fd) (T:Txt K mg Ad) (A5:Has P w K mg base "is_whole_below" ["thing","bound"] 2 (Bv K)):FnOk P w K mg base CX0 3 f fd ["self","place"] (O3 K Ad):=by
 refine F.ok Pa (fun vs H Q E h=>?_) (fun Bo A outer s H vs Q E hr h=>?_)
 . obtain⟨g,pc,sh,ed,en,p,xs,es,ss,bs,s,i,rfl,x,hs,k⟩:=h
   rfl
 . obtain⟨g,pc,sh,ed,en,p,xs,es,ss,bs,s,i,rfl,x,hs,k⟩:=h
   refine⟨_,(Af (Bh (Df (De (Am A5 hr (by rfl) (Ab (pv 1) (Ab (An (Ap (K:=K)) (by rfl) T.n_len PySem.boot_len (Ab (B8 (K:=K) (pv 0)) Ag)) Ag))))) (Ai Li) Aw)
    (Ai (At (B4 Nt (by rfl) T.n_dict Ds (Ab (Cc (Bi (K:=K)) (B8 (K:=K) (pv 0)) (pv 1) (fun _ _=>rfl)) Ag))))),?_⟩
   obtain⟨dx,fs,hg,l1,l2,l3,l4,l5,lm⟩:=x.ob
   obtain⟨us,hpc,r⟩:=x.pcs
   have hul:us.length=xs.length:=by have:=r.length;simpa using this
   have hil:i<xs.length:=by rw [←x.gw.ls];exact (List.getElem?_eq_some_iff.mp hs).1
   obtain⟨cs,c,hsh,hci,hc,nc⟩:=x.shs.get hs
   have hb:Qy (.int (i:Int)) (us.length:Int)=true:=by
    show (decide (0<=(i:Int))&&decide ((i:Int)<(us.length:Int)))=true
    rw [decide_eq_true (by omega),decide_eq_true (by omega)]
    rfl
   refine⟨_,rfl,_,rfl,g,Ad,dx,fs,_,rfl,hg,T.cl_Growth,T.na_Growth_pieces,l2,pc,us,rfl,.inl (.of hpc),.int (i:Int),.int (i:Int),_,rfl,rfl,_,rfl,?_⟩
   rw [hb]
   refine ifN (by decide) ?_
   have hatc:atI (cs.map V.ref) (i:Int)=some (.ref c):=Cg (by rw [List.getElem?_map,hci];rfl)
   exact ⟨_,rfl,g,Ad,dx,fs,_,rfl,hg,T.cl_Growth,T.na_Growth_sheets,l3,_,rfl,sh,_,_,_,rfl,rfl,.of hsh,hatc,c,cK s,rfl,.inl hc,fun D hD=>k D _ hD (Same.new hD) Ac⟩
abbrev B9:Stmt:=top 54
theorem Tz:FnScope ["_law_kind","_law_cells","_law_most","_law_family","_law_words","_law_cell","_law_more"] ["_law_kind","_law_cells","_law_most"] (Ah B9):=⟨rfl,rfl,rfl,by decide +kernel,rfl,by decide +kernel,by decide +kernel⟩
theorem B3:(["_law_kind","_law_cells","_law_most","_law_family","_law_words","_law_cell","_law_more"]:List Str).Nodup:=by decide +kernel
theorem Uh {f:Addr}{fd:FuncData} (F:Fun K "_law_shape_by" "_law_shape_by" B9 f fd) (T:Txt K mg Ad) (Fz:Has P w K mg base "_law_words_with" ["_law_words","_law_word","_law_family"] 2 (Ex K)) (K5:Has P w K mg base "_law_word_by" ["_law_cell","_law_family","_law_letters"] 1 (Id K)) (C3:Has P w K mg base "_law_faces_by" ["_law_word","_law_family"] 1 (Ei K)):FnOk P w K mg base CX0 3 f fd ["_law_kind","_law_cells","_law_most"] (Kt K):=by
 refine F.ok Tz (fun vs H Q E h=>?_) (fun Bo A outer s H vs Q E hr h=>?_)
 . obtain⟨a,ns,kind,most,rfl,hS,hl,hm0,hm1,k⟩:=h
   rfl
 . obtain⟨a,ns,kind,most,rfl,hS,hl,hm0,hm1,k⟩:=h
   have hu8:(A.deeper (PyProof.Rows.envOfC "_law_shape_by" (Ah B9) s.heap.objs.size f Bo)).units+8<cLine:=by have:=hr.units;omega
   refine⟨_,(Af (Ar (i:=3) B3 (by rfl) (by first | exact Or.inl rfl | exact Or.inr rfl) Aj)
    (Af (Bh (Ao Fr (A0 Bs (pv 0) Aj) Aj (Ax _)) (Ai (Ar (i:=3) B3 (by rfl) (by first | exact Or.inl rfl | exact Or.inr rfl) (Ah4 V0 Aj))) Aw)
    (Af (Bh (Ao Fr (A0 Bs (pv 0) Aj) Aj (Ax _)) (Ai (Ar (i:=3) B3 (by rfl) (by first | exact Or.inl rfl | exact Or.inr rfl) (A0 Il Aj (A0 Bs (A0 Fq (pv 0) Aj) Aj)))) Aw)
    (Af (Ar (i:=4) B3 (by rfl) (by first | exact Or.inl rfl | exact Or.inr rfl) (D0 Ag))
    (Af (C0 PassesOwn.never rfl (Ej (K:=K) (pv 1)) (Au (i:=5) B3 (by rfl) (by first | exact Or.inl rfl | exact Or.inr rfl)) (Af (Ar (i:=6) B3 (by rfl) (by first | exact Or.inl rfl | exact Or.inr rfl) (Am Fz hr (by rfl) (Ab (pv 4) (Ab (Am K5 hr (by rfl) (Ab (pv 5) (Ab (pv 3) (Ab (A0 Il Aj (A0 Bs (A0 Fq (pv 0) Aj) Aj)) Ag)))) (Ab (pv 3) Ag)))))
    (Ai (Bh (Ao A80 (An (Ap (K:=K)) (by rfl) T.n_len PySem.boot_len (Ab (pv 6) Ag)) (pv 2) (Ax _)) (Ai (Ar (i:=4) B3 (by rfl) (by first | exact Or.inl rfl | exact Or.inr rfl) (pv 6))) Aw))))
    (Ai (At (Ct (N':=["_law_word","_law_family","_law_words"]) (cap:=[none,some 3,some 4]) (by rfl) (by kernel_rfl) (Ej (K:=K) (pv 4)) (fun _ _ _ _=>(Au (i:=0) A96 (by rfl) (by first | exact Or.inl rfl | exact Or.inr rfl))) (fun _ _ _ _=>Cs) (fun _ _ _ _=>(B4 (Dw (K:=K)) (by rfl) T.n_tuple E8 (Ab (Ct (N':=["_law_face","_law_words"]) (cap:=[none,some 2]) (by rfl) (by kernel_rfl) (Ej (K:=K) (Am C3 hr (by rfl) (Ab (pv 0) (Ab (pv 1) Ag)))) (fun _ _ _ _=>(Au (i:=0) A95 (by rfl) (by first | exact Or.inl rfl | exact Or.inr rfl))) (fun _ _ _ _=>Cs) (fun _ _ _ _=>(Lp (K:=K) PySem.F.plainAttrs_list PySem.F.slot_list_index PySem.F.type_list_index (Aj9 (K:=K) hu8) (pv 1) (Ab (pv 0) Ag)))) Ag))))))))))),?_⟩
   refine Ia (fun σ' H'=>σ'=[some (.int kind),some (.ref a),some (.int most),some (.int 0),none,none,none]/\H=H') ?_ fun key0=>key0 _ _ ⟨rfl,rfl⟩
   rintro _ _ ⟨rfl,rfl⟩
   refine Aq (fun σ' H'=>∃ fam:Int,σ'=[some (.int kind),some (.ref a),some (.int most),some (.int fam),none,none,none]/\H=H'/\fam<100) ?_ fun key1=>?_
   rotate_left
   . refine⟨_,rfl,_,_,rfl,rfl,(by show (0:Int)<3;decide),rfl,_,rfl,?_⟩
     refine ite2 (fun _=>?_) (fun _=>?_)
     . exact ⟨_,rfl,key1 _ _ ⟨-1,rfl,rfl,by decide⟩⟩
     . exact key1 _ _ ⟨0,rfl,rfl,by decide⟩
   rintro _ _ ⟨fam0,rfl,rfl,hf0⟩
   refine Aq (fun σ' H'=>∃ fam:Int,σ'=[some (.int kind),some (.ref a),some (.int most),some (.int fam),none,none,none]/\H=H'/\fam<100) ?_ fun key2=>?_
   rotate_left
   . refine⟨_,rfl,_,_,rfl,rfl,(by show (0:Int)<3;decide),rfl,_,rfl,?_⟩
     refine ite2 (fun _=>?_) (fun _=>?_)
     . refine⟨_,rfl,_,_,rfl,rfl,⟨by decide,by decide⟩,_,_,rfl,rfl,(by show (0:Int)<19;decide),_,_,rfl,rfl,key2 _ _ ⟨_,rfl,rfl,?_⟩⟩
       have:kind / 18%19<19:=Int.emod_lt_of_pos _ (by decide)
       omega
     . exact key2 _ _ ⟨fam0,rfl,rfl,hf0⟩
   rintro _ _ ⟨fam,rfl,rfl,hf⟩
   have l1:0<=kind / 3%6:=Int.emod_nonneg _ (by decide)
   have l2:kind / 3%6<6:=Int.emod_lt_of_pos _ (by decide)
   refine⟨Nat.zero_le _,fun W0 hW0=>?_⟩
   have s0:Same H (upd H W0 (.lst [])):=Same.new hW0
   refine⟨_,rfl,a,rfl,⟨_,s0.seq hS⟩,for_list (K:=K) (a:=a) (xs:=ns.map V.int)
    (fun j σ H2=>∃ (W:Addr) (wu:List V) (ws:List (List Int)) (o5 o6:Option V),σ=[some (.int kind),some (.ref a),some (.int most),some (.int fam),some (.ref W),o5,o6]/\Same H H2/\H W=none/\H2 W=some (.lst wu) ∧
      Reps K H2 wu (ws.map tI)/\Ord fam ws/\(ws.length:Int)<=most)
    ⟨W0,[],[],none,none,rfl,s0,hW0,Ac,rfl,Ord.nil,by simpa using hm0⟩ (fun j σ H2 _ ⟨_,_,_,_,_,_,s2,_⟩=>s2.seq hS) ?_ ?_⟩
   . rintro j x σ H2 hx ⟨W,wu,ws,o5,o6,rfl,s2,hW,hW2,rW,hO,hwl⟩
     have hjn:j<ns.length:=by have:=(List.getElem?_eq_some_iff.mp hx).1;simpa using this
     have hxv:x=.int ns[j]:=by
      rw [List.getElem?_map,List.getElem?_eq_getElem hjn] at hx
      simpa using hx.symm
     subst hxv
     refine⟨_,rfl,_,rfl,_,rfl,_,rfl,_,_,rfl,rfl,⟨by decide,by decide⟩,_,_,rfl,rfl,(by show (0:Int)<6;decide),_,_,rfl,rfl,?_⟩
     refine⟨_,_,_,rfl,by omega,by omega,by omega,fun v H3 w s3 tv hw=>?_⟩
     refine⟨_,rfl,?_⟩
     refine⟨W,wu,v,ws,w,fam,rfl,s3 _ _ hW2,Reps.same s3 rW,tv,hw,by omega,fun M mu H4 hM s4 hM4 rM=>?_⟩
     have s24:=s3.trans s4
     have hMH:H M=none:=(s2.trans s3).free hM
     have mul:mu.length=(Ld ws w fam).length:=by have:=rM.length;simpa using this
     refine⟨_,rfl,M,_,rfl,.inl (.of hM4),_,rfl,_,_,rfl,rfl,_,rfl,?_⟩
     refine ite2 (fun h1=>?_) (fun h1=>?_)
     . have h2:(mu.length:Int)<=most:=by simpa using h1
       exact ⟨_,rfl,M,mu,Ld ws w fam,_,_,rfl,s2.trans s24,hMH,hM4,rM,Th hO hw,by omega⟩
     . exact ⟨W,wu,ws,_,_,rfl,s2.trans s24,hW,s24 _ _ hW2,Reps.same s24 rW,hO,hwl⟩
   . rintro σ H2 ⟨W,wu,ws,o5,o6,rfl,s2,hW,hW2,rW,hO,hwl⟩
     have wul:wu.length=ws.length:=by have:=rW.length;simpa using this
     refine⟨_,rfl,W,rfl,⟨_,.of hW2⟩,fun D hD=>?_⟩
     have hDH:H D=none:=s2.free hD
     refine Nq (K:=K) (a:=W) (xs:=wu) (fun i ys τ H1=>Same H2 H1/\H1 D=some (.lst ys)/\Reps K H1 ys (((ws.take i).map fun w=>(Ak w fam).map fun f=>(idx ws f:Int)).map tI)/\∃ o,τ=[o,some (.int fam),some (.ref W)])
      ⟨Same.new hD,Ac,rfl,none,rfl⟩ (fun i ys τ H1 _ ⟨s1,_⟩=>.of (s1 _ _ hW2)) ?_ ?_
     . rintro i x ys τ H1 hx ⟨s1,hD1,r1,o,rfl⟩
       have hi:i<wu.length:=(List.getElem?_eq_some_iff.mp hx).1
       have hil:i<ws.length:=by omega
       have hix:(ws.map tI)[i]?=some (tI ws[i]):=by rw [List.getElem?_map,List.getElem?_eq_getElem hil];rfl
       obtain⟨x',hx',tx⟩:=rW.get hix
       rw [hx] at hx'
       cases hx'
       obtain⟨hwi,hfi⟩:=hO.mem (List.getElem_mem hil)
       generalize hwe:ws[i]=w at tx hwi hfi
       refine⟨_,rfl,_,rfl,x,w,fam,rfl,TI.same s1 tx,hwi,fun p fu H3 hp s3 hp3 r3=>?_⟩
       have ful:fu.length=(Ak w fam).length:=by have:=r3.length;simpa using this
       have s13:=s1.trans s3
       refine⟨p,rfl,⟨_,.of hp3⟩,fun D2 hD2=>?_⟩
       refine Nq (K:=K) (a:=p) (xs:=fu) (fun m zs τ H4=>Same H3 H4/\H4 D2=some (.lst zs)/\zs=((Ak w fam).take m).map (fun f=>V.int (idx ws f:Int))/\∃ o,τ=[o,some (.ref W)])
        ⟨Same.new hD2,Ac,rfl,none,rfl⟩ (fun m zs τ H4 _ ⟨s4,_⟩=>.of (s4 _ _ hp3)) ?_ ?_
       . rintro m y zs τ H4 hy ⟨s4,hD4,hzs,o,rfl⟩
         have hm:m<fu.length:=(List.getElem?_eq_some_iff.mp hy).1
         have hmf:m<(Ak w fam).length:=by omega
         have hmy:((Ak w fam).map tI)[m]?=some (tI (Ak w fam)[m]):=by rw [List.getElem?_map,List.getElem?_eq_getElem hmf];rfl
         obtain⟨y',hy',ty⟩:=r3.get hmy
         rw [hy] at hy'
         cases hy'
         have hfm:(Ak w fam)[m]∈ws:=hfi _ (List.getElem_mem _)
         have s14:=s13.trans s4
         have rw4:Rep K H4 (.ref W) (.lst (ws.map tI)):=⟨W,wu,rfl,.of (s14 _ _ hW2),Reps.same s14 rW⟩
         have hfl:=(Gi hwi)
         have hzl:zs.length<=4:=by
          rw [hzs,List.length_map,List.length_take]
          have:=hfl.2
          have:=hfl.1
          split at this<;>omega
         refine⟨_,rfl,.inl ⟨rfl,_,.of (s14 _ _ hW2)⟩,_,rfl,ws.map tI,y,tI (Ak w fam)[m],idx ws (Ak w fam)[m],rfl,rw4,TI.same s4 ty,(by have:=Ju ws;omega),Ac4 hfm,?_⟩
         refine⟨hD4,C5 (by omega),s4.turn hD2,Ac,?_,_,rfl⟩
         rw [List.take_succ,List.getElem?_eq_getElem hmf,List.map_append,hzs]
         rfl
       . rintro zs τ H4 ⟨s4,hD4,hzs,_⟩
         rw [ful,List.take_length] at hzs
         have s14:=s13.trans s4
         refine⟨D2,_,rfl,.inl ⟨.of hD4,fun T hT=>?_⟩⟩
         have s5:Same H4 (upd H4 T (.tup zs)):=Same.new hT
         have hD5:=(s3.trans (s4.trans s5)) _ _ hD1
         have t5:TI K (upd H4 T (.tup zs)) (.ref T) ((Ak w fam).map fun f=>(idx ws f:Int)):=by
          refine TI.mk (.of ?_)
          rw [List.map_map,Ac,hzs]
          rfl
         have hyl:ys.length=i:=by have:=r1.length;simp at this;omega
         refine⟨hD5,C5 (by omega),(s14.trans s5).turn hD,Ac,?_,_,rfl⟩
         have e2:(ws.take (i+1)).map (fun w=>(Ak w fam).map fun f=>(idx ws f:Int))=(ws.take i).map (fun w=>(Ak w fam).map fun f=>(idx ws f:Int))++[(Ak w fam).map fun f=>(idx ws f:Int)]:=by
          rw [List.take_succ,List.getElem?_eq_getElem hil,hwe,List.map_append]
          rfl
         rw [e2]
         exact Kz hD5 (Reps.same (s3.trans (s4.trans s5)) r1) t5
     . rintro ys τ H1 ⟨s1,hD1,r1,_⟩
       rw [wul,List.take_length] at r1
       exact k D ys H1 (Ky ws fam) hDH (s2.trans s1) hD1 r1 (Tx hO) (by unfold Ky;rw [List.length_map];exact hwl)
abbrev Ca:Stmt:=top 56
theorem T0:FnScope ["_law_shape","_law_prime","_law_place","_law_paper","_law_spot"] ["_law_shape","_law_prime","_law_place","_law_paper"] (Ah Ca):=⟨rfl,rfl,rfl,by decide +kernel,rfl,by decide +kernel,by decide +kernel⟩
theorem Uy:(["_law_shape","_law_prime","_law_place","_law_paper","_law_spot"]:List Str).Nodup:=by decide +kernel
theorem Ui {f:Addr}{fd:FuncData} (F:Fun K "_law_paper_is" "_law_paper_is" Ca f fd) (T:Txt K mg Ad) (Iv:Has P w K mg base "_law_chain_is" ["_law_shape","_law_level_here","_law_thing"] 2 (Kw K)) (Gh:Has P w K mg base "_law_level" ["_law_piece"] 1 (Le K)):FnOk P w K mg base CX0 3 f fd ["_law_shape","_law_prime","_law_place","_law_paper"] (Ku K):=by
 refine F.ok T0 (fun vs H Q E h=>?_) (fun Bo A outer s H vs Q E hr h=>?_)
 . obtain⟨a,xs,p,i,x,t,rfl,hL,hi,hP,kq⟩:=h
   rfl
 . obtain⟨a,xs,p,i,x,t,rfl,hL,hi,hP,kq⟩:=h
   have hu8:(A.deeper (PyProof.Rows.envOfC "_law_paper_is" (Ah Ca) s.heap.objs.size f Bo)).units+8<cLine:=by have:=hr.units;omega
   refine⟨_,(Af (Bh (PW.pt (Lh (Df (De (Am Iv hr (by rfl) (Ab (pv 0) (Ab (Am Gh hr (by rfl) (Ab (Cc (Bi (K:=K)) (pv 0) (pv 2) (fun _ _=>rfl)) Ag)) (Ab (pv 3) Ag)))))) (Ih (Ao Lk (Uf (u1 hu8) (pv 3) (pv 2) Aj ⟨by rfl,by rfl,by rfl,by rfl⟩) Aj (Ax _))))) (Ai (At E1)) Aw)
    (Af (Pd (C0 PassesOwn.never rfl (Uc (pv 3)) (Au (i:=4) Uy (by rfl) (by first | exact Or.inl rfl | exact Or.inr rfl)) (Ai (Bh (PW.pt (Lh (Ao z8 (pv 4) (pv 2) (Ax _)) (Lh (Ao Oh (Ez (u1 hu8) (pv 3) (pv 4) (fun _ _=>rfl)) Aj (Ax _)) (Ih (Ao A83 (Ez (u1 hu8) (pv 3) (pv 4) (fun _ _=>rfl)) (pv 1) (Ax _)))))) (Ai (At E1)) Aw))))
    (Ai (At E1)))),?_⟩
   obtain⟨Tt,hT,hTO,hch⟩:=hP.thing
   obtain⟨us,v,hus,hat,tv⟩:=LT.get hL (i:=(i:Int)) (by omega) (by omega)
   rw [Int.toNat_natCast] at tv
   refine Aq (t:=tIfS _ _ _) (fun σ' H'=>σ'=[some (.ref a),some (.int p),some (.int (i:Int)),some x,none]/\Same H H'/\∃ (b:Addr) (ms:Ms),t=.ch ms/\x=.ref b/\H b=some (.dK (cK ms))/\ms.length<=100/\D6 xs (levA xs i) ms=true/\getI ms (i:Int)=1) ?_ fun key=>?_
   rotate_left
   . refine⟨_,rfl,_,rfl,_,rfl,a,us,_,_,rfl,rfl,hus,hat,v,nums (xs.getD i []),rfl,.inr tv,_,rfl,a,xs,_,x,Tt,rfl,hL,hT,hTO,fun H1 s1=>?_⟩
     rw [show (nums (xs.getD i [])).length=(xs.getD i []).length from List.length_map ..,hch]
     refine⟨_,rfl,?_⟩
     show _
     cases hc:chP xs (levA xs i) t with
     | false =>
       rw [show chP xs (levI (xs.getD i []).length) t=false from hc]
       refine ifP rfl ?_
       have q:=kq _ s1
       rw [m4 hc] at q
       exact q
     | true =>
       rw [show chP xs (levI (xs.getD i []).length) t=true from hc]
       refine ifN (by decide) ?_
       cases t with
       | bad=>cases hc
       | ch ms =>
         obtain⟨b,rfl,hb,hm⟩:=hP
         have hb1:=s1 _ _ hb
         refine⟨_,rfl,b,rfl,.inl ⟨_,.inl hb1⟩,_,rfl,_,Ve (.inl hb1),?_⟩
         rw [i4]
         refine⟨rfl,_,rfl,?_⟩
         refine ite2 (fun h1=>?_) (fun h1=>?_)
         . have h2:¬getI ms (i:Int)=1:=by simpa using h1
           have q:=kq _ s1
           have e:D1 xs p i (.ch ms)=false:=by
            show (D6 xs (levA xs i) ms&&(decide (getI ms (i:Int)=1)&&_))=false
            rw [decide_eq_false h2]
            simp
           rw [e] at q
           exact q
         . have h2:getI ms (i:Int)=1:=by simpa using h1
           exact key _ _ ⟨rfl,s1,b,ms,rfl,rfl,hb,hm,hc,h2⟩
   rintro _ H1 ⟨rfl,s1,b,ms,rfl,rfl,hb,hm,hc,hg⟩
   have hb1:=s1 _ _ hb
   have pe:D1 xs p i (.ch ms)=Ff i p ms:=by
    show (D6 xs (levA xs i) ms&&(decide (getI ms (i:Int)=1)&&Ff i p ms))=_
    rw [hc,decide_eq_true hg]
    rfl
   rw [pe] at kq
   have back:∀ G:Hp,(∀ c q,c≠b->H1 c=some q->G c=some q)->Same H (upd G b (.dK (cK ms))):=fun G h c q e=>by
    by_cases z:c=b
    . subst z
      rw [hb] at e
      cases e
      exact Ac
    . rw [Ae z];exact h c q z (s1 _ _ e)
   refine Aq (fun σ' H'=>∃ o4,σ'=[some (.ref a),some (.int p),some (.int (i:Int)),some (.ref b),o4]/\Same H H'/\Ff i p ms=true) ?_ fun key=>?_
   rotate_left
   . refine .inr ⟨b,cK ms,hb1,fun hnd o=>?_⟩
     have hndm:nd ms:=Gr.mp hnd
     refine⟨_,rfl,b,o,cK ms,rfl,Ac,?_⟩
     have hbF:upd H1 b (.frz o (.dK (cK ms))) b=some (.frz o (.dK (cK ms))):=Ac
     have hFk:∀ c q,c≠b->H1 c=some q->upd H1 b (.frz o (.dK (cK ms))) c=some q:=fun c q n e=>by rw [Ae n];exact e
     generalize upd H1 b (.frz o (.dK (cK ms)))=F0 at hbF hFk ⊢
     have no:∀ q,q∈ms->(decide (q.1<=(i:Int))&&(decide (1<=q.2)&&decide (q.2<p)))=false->Q (.bl false) (upd F0 b (.dK (cK ms))):=fun q hq h=>by
      have hs:Ff i p ms=false:=List.all_eq_false.mpr ⟨q,hq,by rw [h];decide⟩
      have z:=kq _ (back F0 hFk)
      rw [hs] at z
      exact z
     refine Ox (d:=b) (o:=o) (kvs:=cK ms) (fun j σ G=>∃ o4,σ=[some (.ref a),some (.int p),some (.int (i:Int)),some (.ref b),o4]/\F0=G/\Ff i p (ms.take j)=true) ⟨none,rfl,rfl,rfl⟩ (fun j σ G _ ⟨_,_,e,_⟩=>by rw [←e];exact hbF) ?_ ?_
     . rintro j kk y σ G hx ⟨o4,rfl,rfl,hall⟩
       obtain⟨q,hq,rfl,rfl⟩:=L5 hx
       have hqm:=List.mem_of_getElem? hq
       have hat:Bd ms q.1=some q.2:=Gy hndm hqm
       refine⟨_,rfl,_,rfl,_,_,rfl,rfl,_,rfl,?_⟩
       refine ite2 (fun h1=>?_) (fun h1=>?_)
       . refine ifP rfl ?_
         have h2:¬q.1<=(i:Int):=by
          have:(i:Int)<q.1:=by simpa using h1
          omega
         exact ⟨hbF,no q hqm (by rw [decide_eq_false h2];rfl)⟩
       refine⟨_,rfl,_,rfl,b,.int q.2,rfl,Hg (.inr ⟨o,hbF⟩) hat,_,_,rfl,rfl,_,rfl,?_⟩
       refine ite2 (fun h2=>?_) (fun h2=>?_)
       . refine ifP rfl ?_
         have h3:¬1<=q.2:=by
          have:q.2<1:=by simpa using h2
          omega
         exact ⟨hbF,no q hqm (by rw [decide_eq_false h3];simp)⟩
       refine⟨_,rfl,_,rfl,b,.int q.2,rfl,Hg (.inr ⟨o,hbF⟩) hat,_,rfl,_,_,rfl,rfl,_,rfl,?_⟩
       refine ite2 (fun h3=>?_) (fun h3=>?_)
       . have h4:¬q.2<p:=by
          have:p<=q.2:=by simpa using h3
          omega
         exact ⟨hbF,no q hqm (by rw [decide_eq_false h4];simp)⟩
       have e1:q.1<=(i:Int):=by simpa using h1
       have e2:1<=q.2:=by
        have:¬q.2<1:=by simpa using h2
        omega
       have e3:q.2<p:=by simpa using h3
       refine⟨_,rfl,rfl,?_⟩
       unfold Ff at hall ⊢
       rw [List.take_add_one,hq,List.all_append,hall]
       show (true&&((decide (q.1<=(i:Int))&&(decide (1<=q.2)&&decide (q.2<p)))&&true))=true
       rw [decide_eq_true e1,decide_eq_true e2,decide_eq_true e3]
       rfl
     . rintro σ G ⟨o4,rfl,rfl,hall⟩
       rw [Dg,List.take_length] at hall
       exact ⟨hbF,key _ _ ⟨o4,rfl,back _ hFk,hall⟩⟩
   rintro _ G ⟨o4,rfl,sG,e⟩
   have q:=kq G sG
   rw [e] at q
   exact q
abbrev Pb:Stmt:=top 8
theorem Ay7:FnScope ["shape","thing","level"] ["shape","thing"] (Ah Pb):=⟨rfl,rfl,rfl,by decide +kernel,rfl,by decide +kernel,by decide +kernel⟩
theorem A12:(["shape","thing","level"]:List Str).Nodup:=by decide +kernel
theorem A04 {f:Addr}{fd:FuncData} (F:Fun K "fits" "fits" Pb f fd) (T:Txt K mg Ad) (Cj:Has P w K mg base "level_of" ["piece"] 1 (Dh K)) (G6:Has P w K mg base "faces_agree" ["shape","faces"] 1 (Fk K)) (Bb:Has P w K mg base "is_place_of_level" ["shape","thing","level"] 3 (Bt K)):FnOk P w K mg base CX0 4 f fd ["shape","thing"] (To K):=by
 refine F.ok Ay7 (fun vs H Q E h=>?_) (fun Bo A outer s H vs Q E hr h=>?_)
 . obtain⟨a,th,e,xs,rfl,hL,hd,k⟩:=h
   rfl
 . obtain⟨a,th,e,xs,rfl,hL,hd,k⟩:=h
   obtain⟨a_FACE_COUNTS,c_FACE_COUNTS,q_FACE_COUNTS⟩:=T.x_FACE_COUNTS
   have hu8:(A.deeper (PyProof.Rows.envOfC "fits" (Ah Pb) s.heap.objs.size f Bo)).units+8<cLine:=by have:=hr.units;omega
   refine⟨_,(Af (Bh (PW.pt (Lh (Df (De (An (Ao9 (K:=K)) (by rfl) T.n_isinstance A3 (Ab (pv 1) (Ab (Fp (v:=.ty "tuple") rfl T.n_tuple E8 rfl) Ag))))) (Ih (Ao (Jp (K:=K) hu8) (An (Ap (K:=K)) (by rfl) T.n_len PySem.boot_len (Ab (pv 1) Ag)) (Ue (v:=.ref a_FACE_COUNTS) (by rfl) c_FACE_COUNTS rfl) rfl)))) (Ai (At E1)) Aw)
    (Af (Ar (i:=2) A12 (by rfl) (by first | exact Or.inl rfl | exact Or.inr rfl) (Am Cj hr (by rfl) (Ab (pv 1) Ag)))
    (Af (Bh (Df (De (An (Gg (K:=K) (by rfl)) (by rfl) T.n_all Ji (Ab (Ct (N':=["face","shape","level"]) (cap:=[none,some 0,some 2]) (by rfl) (by kernel_rfl) (U0 (K:=K) (pv 1)) (fun _ _ _ _=>(Au (i:=0) Be4 (by rfl) (by first | exact Or.inl rfl | exact Or.inr rfl))) (fun _ _ _ _=>Cs) (fun _ _ _ _=>(Am Bb hr (by rfl) (Ab (pv 1) (Ab (pv 0) (Ab (A0 Ik (pv 2) Aj) Ag)))))) Ag)))) (Ai (At E1)) Aw)
    (Ai (At (Bd8 (Ij Oh (pv 2) Aj (Ax _)) (N2 (Am G6 hr (by rfl) (Ab (pv 0) (Ab (pv 1) Ag)))))))))),?_⟩
   refine⟨_,rfl,th,"tuple",.one e,rfl,.inr (.inr (.inr (.inl rfl))),hd,_,rfl,?_⟩
   cases e with
   | nul=>exact k H (Same.refl H)
   | d d =>
     have hd:Rep K H th d:=hd
     have k:∀ H',Same H H'->Q (.bl (Ka xs d)) H':=k
     cases d with
     | non=>exact k H (Same.refl H)
     | bl b=>exact k H (Same.refl H)
     | int i=>exact k H (Same.refl H)
     | str z=>exact k H (Same.refl H)
     | lst es=>exact k H (Same.refl H)
     | tup ds =>
       obtain⟨pa,us,rfl,hq,r⟩:=id hd
       have ul:us.length=ds.length:=r.length
       refine ifN (by simp [isT,isE,isD]) ?_
       refine⟨_,rfl,pa,us,rfl,.inr hq,.int (us.length:Int),nums [0,2,3,4],rfl,.inr ⟨_,_,rfl,q_FACE_COUNTS H,Ey.mpr rfl⟩,(by rw [Jc];decide),_,rfl,?_⟩
       rw [ul]
       have cnt:(!(nums [0,2,3,4]).any fun e=>eqD e (.int (ds.length:Int)))=!cntB ds.length:=by
        have:(nums [0,2,3,4]).any (fun e=>eqD e (.int (ds.length:Int)))=cntB ds.length:=by
         simp only [nums,List.map_cons,List.map_nil,List.any_cons,List.any_nil,eqD,cntB]
         rw [Bool.eq_iff_iff]
         simp only [Bool.or_eq_true,beq_iff_eq,Bool.or_false]
         omega
        rw [this]
       by_cases hc:cntB ds.length=true
       rotate_left
       . have hc':cntB ds.length=false:=by simpa using hc
         refine ifP (by rw [if_pos rfl,cnt,hc'];rfl) ?_
         have e2:Ka xs (.tup ds)=false:=by rw [E7];simp [hc']
         rw [e2] at k
         exact k H (Same.refl H)
       refine ifN (by rw [if_pos rfl,cnt,hc];simp) ?_
       have hn4:ds.length<=4:=(A43 hc).1
       refine⟨_,rfl,_,ds,rfl,.inr hd,?_⟩
       refine⟨_,rfl,pa,rfl,⟨_,hq⟩,fun D hD=>?_⟩
       refine Xj (K:=K) (a:=pa) (xs:=us) (fun i ys τ H1=>Same H H1/\H1 D=some (.lst ys)/\ys=((ds.take i).map fun e=>V.bl (Bc xs e (levI ds.length-1)))/\∃ o,τ=[o,some (.ref a),some (.int (levI ds.length))])
        ⟨Same.new hD,Ac,rfl,none,rfl⟩ (fun i ys τ H1 _ ⟨s1,_⟩=>s1.seqT hq) ?_ ?_
       . rintro i x ys τ H1 hx ⟨s1,hD1,hys,o,rfl⟩
         have hi:i<us.length:=(List.getElem?_eq_some_iff.mp hx).1
         obtain⟨e,he,re⟩:=r.getV hx
         refine⟨_,rfl,_,rfl,_,rfl,_,_,rfl,rfl,a,x,e,_,xs,rfl,Rep.same s1 hL,Rep.same s1 re,?_⟩
         refine⟨hD1,C5 (by rw [hys,List.length_map,List.length_take];omega),s1.turn hD,Ac,?_,_,rfl⟩
         rw [List.take_succ,he,List.map_append,hys]
         rfl
       . rintro ys τ H1 ⟨s1,hD1,hys,_⟩
         rw [ul,List.take_length] at hys
         have hys2:ys=(ds.map fun e=>Bc xs e (levI ds.length-1)).map V.bl:=by rw [hys,List.map_map];rfl
         rw [hys2] at hD1
         refine⟨D,_,rfl,.of hD1,_,rfl,?_⟩
         have eall:(ds.map fun e=>Bc xs e (levI ds.length-1)).all id=ds.all fun e=>Bc xs e (levI ds.length-1):=by rw [List.all_map];rfl
         by_cases ha:(ds.all fun e=>Bc xs e (levI ds.length-1))=true
         rotate_left
         . have ha':(ds.all fun e=>Bc xs e (levI ds.length-1))=false:=by simpa using ha
           refine ifP (by rw [eall,ha'];rfl) ?_
           have e2:Ka xs (.tup ds)=false:=by rw [E7];rw [ha',hc];rfl
           rw [e2] at k
           exact k H1 s1
         refine ifN (by rw [eall,ha];simp) ?_
         have e2:Ka xs (.tup ds)=(decide (levI ds.length<2) || Jk xs (ds.map toI)):=by rw [E7];rw [ha,hc];rfl
         rw [e2] at k
         refine⟨_,rfl,_,_,rfl,rfl,_,rfl,?_⟩
         refine ite2 (fun h1=>?_) (fun h1=>?_)
         . have h2:(decide (levI ds.length<2))=true:=h1
           rw [h2] at k
           exact k H1 s1
         . have h2:(decide (levI ds.length<2))=false:=by simpa using h1
           rw [h2] at k
           have hint:=r9 ha
           have tv:TI K H1 (.ref pa) (ds.map toI):=by
            have:=Rep.same s1 hd
            rw [hint] at this
            exact this
           refine⟨_,rfl,_,rfl,a,_,xs,ds.map toI,rfl,Rep.same s1 hL,tv,by simpa using hn4,?_,k H1 s1⟩
           intro f hf
           rw [List.all_eq_true] at ha
           have hm:L2.D.int f∈ds:=by
            rw [hint]
            exact List.mem_map.mpr ⟨f,hf,rfl⟩
           have:=ha _ hm
           simp only [Bc,Bool.and_eq_true,decide_eq_true_eq] at this
           obtain⟨⟨f0,f1⟩,f2⟩:=this
           refine⟨f0,f1,?_⟩
           rw [List.length_map]
           rw [Fv,Fv] at f2
           have h3:¬levI ds.length<2:=by simpa using h2
           rw [Fv] at h3
           omega
abbrev Ga:Stmt:=top 13
theorem y3:FnScope ["shape","k","place","number"] ["shape","k","place","number"] (Ah Ga):=⟨rfl,rfl,rfl,by decide +kernel,rfl,by decide +kernel,by decide +kernel⟩
theorem z9 {f:Addr}{fd:FuncData} (F:Fun K "is_part" "is_part" Ga f fd) (T:Txt K mg Ad) (Bb:Has P w K mg base "is_place_of_level" ["shape","thing","level"] 3 (Bt K)) (Et:Has P w K mg base "is_whole" ["thing"] 1 (Ew K)):FnOk P w K mg base CX0 4 f fd ["shape","k","place","number"] (Kx K):=by
 refine F.ok y3 (fun vs H Q E h=>?_) (fun Bo A outer s H vs Q E hr h=>?_)
 . obtain⟨a,xs,k,x,y,d,e,rfl,hL,hx,hy,kq⟩:=h
   rfl
 . obtain⟨a,xs,k,x,y,d,e,rfl,hL,hx,hy,kq⟩:=h
   refine⟨_,(Ai (At (N3 (Am Bb hr (by rfl) (Ab (pv 0) (Ab (pv 2) (Ab (pv 1) Ag)))) (N3 (Am Et hr (by rfl) (Ab (pv 3) Ag)) (N2 (Ij Lk (pv 3) Aj (Ax _))))))),?_⟩
   refine⟨_,rfl,_,rfl,_,rfl,a,x,d,k,xs,rfl,hL,hx,_,rfl,?_⟩
   refine ite2 (fun e1=>?_) (fun e1=>?_)
   . refine⟨_,rfl,y,e,rfl,hy,_,rfl,?_⟩
     refine ite2 (fun e2=>?_) (fun e2=>?_)
     . obtain⟨n,rfl⟩:=Vx e2
       cases (show y=.int n from hy)
       refine⟨_,rfl,rfl,?_⟩
       have e3:E2 xs k d (.int n)=!decide (V.int n=V.int 0):=by
        unfold E2 nzD
        rw [e1]
        by_cases z:n=0
        . subst z;simp
        . simp [z]
       rw [e3] at kq
       exact kq
     . have e2':Dz e=false:=by simpa using e2
       rw [Lj (m7 e2')] at kq
       exact kq
   . have e1':Bc xs d k=false:=by simpa using e1
     rw [Gf e1'] at kq
     exact kq
abbrev Bw:Stmt:=U6 (top 41) 0
theorem Og:FnScope ["self","prime"] ["self","prime"] (Ah Bw):=⟨rfl,rfl,rfl,by decide +kernel,rfl,by decide +kernel,by decide +kernel⟩
theorem Ho {f:Addr}{fd:FuncData}{ds0:List Value} (F:FunD K "__init__" "Growth.__init__" Bw f fd ds0) (T:Txt K mg Ad) (Jq:Has P w K mg base "is_prime" ["thing"] 3 (O2 K)):FnOk P w K mg base CX0 4 f fd ["self","prime"] (Lf K Ad):=by
 refine F.ok Og (fun vs H Q E h=>?_) (fun Bo A outer s H vs Q E hr h=>?_)
 . obtain⟨g,dx,p,rfl,hg,hP,h98,k⟩:=h
   rfl
 . obtain⟨g,dx,p,rfl,hg,hP,h98,k⟩:=h
   refine⟨_,(Af (Bh (Df (De (Am Jq hr (by rfl) (Ab (pv 1) Ag)))) (Ai Li) Aw)
    (Af (Py (K:=K) (pv 0) (pv 1))
    (Af (Py (K:=K) (pv 0) (D0 Ag))
    (Af (Py (K:=K) (pv 0) (D0 Ag))
    (Af (Py (K:=K) (pv 0) (D0 Ag))
    (Ai (Py (K:=K) (pv 0) Fg))))))),?_⟩
   refine⟨_,rfl,p,rfl,hP,h98,fun H0 s0=>⟨_,rfl,?_⟩⟩
   refine ifN (by decide) ?_
   refine⟨_,rfl,_,rfl,g,Ad,dx,[],rfl,s0 _ _ hg,T.cl_Growth,T.na_Growth_prime,by decide,?_⟩
   have sx0:SameX g H (upd H0 g (.ins Ad dx (putF "prime" (.int p) []))):=SameX.upd (SameX.of s0)
   have eg0:upd H0 g (.ins Ad dx (putF "prime" (.int p) [])) g=some (.ins Ad dx (putF "prime" (.int p) [])):=Ac
   generalize upd H0 g (.ins Ad dx (putF "prime" (.int p) []))=H1 at sx0 eg0
   refine⟨A7 (by simp),fun pc hpc=>?_⟩
   have npc:pc≠g:=fun z=>by rw [z,eg0] at hpc;cases hpc
   obtain⟨sx1,eg1,epc,pe0,fpc,_⟩:=init_step (o:=.lst []) (putF "pieces" (.ref pc) (putF "prime" (.int p) [])) sx0 eg0 hpc
   refine⟨_,rfl,g,Ad,dx,_,rfl,(by rw [Ae npc.symm];exact eg0),T.cl_Growth,T.na_Growth_pieces,Nat.lt_of_le_of_lt (lenF (Nat.le_refl 0)) (by decide),?_⟩
   generalize upd (upd H1 pc (.lst [])) g (.ins Ad dx (putF "pieces" (.ref pc) (putF "prime" (.int p) [])))=H2 at sx1 eg1 epc
   refine⟨A7 (by simp),fun sh hsh=>?_⟩
   have nsh:sh≠g:=fun z=>by rw [z,eg1] at hsh;cases hsh
   obtain⟨sx2,eg2,esh,pe1,fsh,_⟩:=init_step (o:=.lst []) (putF "sheets" (.ref sh) (putF "pieces" (.ref pc) (putF "prime" (.int p) []))) sx1 eg1 hsh
   refine⟨_,rfl,g,Ad,dx,_,rfl,(by rw [Ae nsh.symm];exact eg1),T.cl_Growth,T.na_Growth_sheets,Nat.lt_of_le_of_lt (lenF (lenF (Nat.le_refl 0))) (by decide),?_⟩
   have dpcsh:pc≠sh:=fun z=>by rw [←z,epc] at hsh;cases hsh
   replace epc:=pe1 _ _ npc epc
   generalize upd (upd H2 sh (.lst [])) g (.ins Ad dx (putF "sheets" (.ref sh) (putF "pieces" (.ref pc) (putF "prime" (.int p) []))))=H3 at sx2 eg2 esh epc
   refine⟨A7 (by simp),fun ed hed=>?_⟩
   have ned:ed≠g:=fun z=>by rw [z,eg2] at hed;cases hed
   obtain⟨sx3,eg3,eed,pe2,fed,_⟩:=init_step (o:=.lst []) (putF "edges" (.ref ed) (putF "sheets" (.ref sh) (putF "pieces" (.ref pc) (putF "prime" (.int p) [])))) sx2 eg2 hed
   refine⟨_,rfl,g,Ad,dx,_,rfl,(by rw [Ae ned.symm];exact eg2),T.cl_Growth,T.na_Growth_edges,Nat.lt_of_le_of_lt (lenF (lenF (lenF (Nat.le_refl 0)))) (by decide),?_⟩
   have dpced:pc≠ed:=fun z=>by rw [←z,epc] at hed;cases hed
   have dshed:sh≠ed:=fun z=>by rw [←z,esh] at hed;cases hed
   replace epc:=pe2 _ _ npc epc
   replace esh:=pe2 _ _ nsh esh
   generalize upd (upd H3 ed (.lst [])) g (.ins Ad dx (putF "edges" (.ref ed) (putF "sheets" (.ref sh) (putF "pieces" (.ref pc) (putF "prime" (.int p) [])))))=H4 at sx3 eg3 eed epc esh
   refine fun en hen=>?_
   have nen:en≠g:=fun z=>by rw [z,eg3] at hen;cases hen
   obtain⟨sx4,eg4,een,pe3,fen,_⟩:=init_step (o:=.dK []) (putF "enders" (.ref en) (putF "edges" (.ref ed) (putF "sheets" (.ref sh) (putF "pieces" (.ref pc) (putF "prime" (.int p) []))))) sx3 eg3 hen
   refine⟨_,rfl,g,Ad,dx,_,rfl,(by rw [Ae nen.symm];exact eg3),T.cl_Growth,T.na_Growth_enders,Nat.lt_of_le_of_lt (lenF (lenF (lenF (lenF (Nat.le_refl 0))))) (by decide),?_⟩
   have dpcen:pc≠en:=fun z=>by rw [←z,epc] at hen;cases hen
   have dshen:sh≠en:=fun z=>by rw [←z,esh] at hen;cases hen
   have deden:ed≠en:=fun z=>by rw [←z,eed] at hen;cases hen
   replace epc:=pe3 _ _ npc epc
   replace esh:=pe3 _ _ nsh esh
   replace eed:=pe3 _ _ ned eed
   generalize upd (upd H4 en (.dK [])) g (.ins Ad dx (putF "enders" (.ref en) (putF "edges" (.ref ed) (putF "sheets" (.ref sh) (putF "pieces" (.ref pc) (putF "prime" (.int p) []))))))=H5 at sx4 eg4 een epc esh eed
   refine k pc sh ed en H5 fpc fsh fed fen sx4 ⟨⟨dx,_,eg4,by refine⟨?_,?_,?_,?_,?_,?_,?_,?_,?_,?_,?_,?_⟩<;>((repeat (first | rw [Gx,if_pos rfl] | rw [Gx,if_neg (by decide +kernel)]))<;>first | rfl | assumption)⟩,⟨[],epc,rfl⟩,⟨[],eed,rfl,fun i d m e=>by simp at e⟩,⟨[],esh,rfl,fun i d m e=>by simp at e⟩,een,⟨dpcsh,dpced,dshed⟩,Om.nil p,hP,h98⟩
abbrev Dm:Stmt:=top 57
theorem Yw:FnScope ["_law_shape","_law_prime","_law_papers","_law_lows","_law_place","_law_edge","_law_spots"] ["_law_shape","_law_prime","_law_papers"] (Ah Dm):=⟨rfl,rfl,rfl,by decide +kernel,rfl,by decide +kernel,by decide +kernel⟩
theorem Gv:(["_law_shape","_law_prime","_law_papers","_law_lows","_law_place","_law_edge","_law_spots"]:List Str).Nodup:=by decide +kernel
theorem Zf {f:Addr}{fd:FuncData} (F:Fun K "_law_due_of" "_law_due_of" Dm f fd) (T:Txt K mg Ad) (G7:Has P w K mg base "_law_border_by" ["_law_shape","_law_chain"] 2 (Ib K)) (Iu:Has P w K mg base "_law_paper_is" ["_law_shape","_law_prime","_law_place","_law_paper"] 3 (Ku K)):FnOk P w K mg base CX0 4 f fd ["_law_shape","_law_prime","_law_papers"] (Ye K):=by
 refine F.ok Yw (fun vs H Q E h=>?_) (fun Bo A outer s H vs Q E hr h=>?_)
 . obtain⟨a,xs,p,x,o,rfl,hL,h4,h40,hp,hp98,hPs,kq⟩:=h
   rfl
 . obtain⟨a,xs,p,x,o,rfl,hL,h4,h40,hp,hp98,hPs,kq⟩:=h
   have hu8:(A.deeper (PyProof.Rows.envOfC "_law_due_of" (Ah Dm) s.heap.objs.size f Bo)).units+8<cLine:=by have:=hr.units;omega
   refine⟨_,(Af (Bh (PW.pt (Lh (Df (De (An S1 (by rfl) T.n_isinstance A3 (Ab (pv 2) (Ab (Fp (v:=.ty "list") rfl T.n_list Jv rfl) Ag))))) (Ih (Ao Lk (An (Ap (K:=K)) (by rfl) T.n_len PySem.boot_len (Ab (pv 2) Ag)) (An (Ap (K:=K)) (by rfl) T.n_len PySem.boot_len (Ab (pv 0) Ag)) (Ax _))))) (Ai (At E1)) Aw)
    (Af (Ar (i:=3) Gv (by rfl) (by first | exact Or.inl rfl | exact Or.inr rfl) (D0 Ag))
    (Af (C0 PassesOwn.never rfl (Cl (by rfl) T.n_range (Ab (An (Ap (K:=K)) (by rfl) T.n_len PySem.boot_len (Ab (pv 0) Ag)) Ag)) (Au (i:=4) Gv (by rfl) (by first | exact Or.inl rfl | exact Or.inr rfl)) (Af (Bh (Df (De (Am Iu hr (by rfl) (Ab (pv 0) (Ab (pv 1) (Ab (pv 4) (Ab (Cc (Bi (K:=K)) (pv 2) (pv 4) (fun _ _=>rfl)) Ag))))))) (Ai (At E1)) Aw)
    (Af (Ar (i:=5) Gv (by rfl) (by first | exact Or.inl rfl | exact Or.inr rfl) (Am G7 hr (by rfl) (Ab (pv 0) (Ab (Cc (Bi (K:=K)) (pv 2) (pv 4) (fun _ _=>rfl)) Ag))))
    (Af (Pd (Yy (N':=["_law_spot","_law_edge","_law_prime"]) (cap:=[none,some 5,some 1]) (i:=6) Gv (by rfl) (by first | exact Or.inl rfl | exact Or.inr rfl) (by rfl) (by kernel_rfl) (Uc (pv 5)) (fun _ _ _ _=>(Au (i:=0) A94 (by rfl) (by first | exact Or.inl rfl | exact Or.inr rfl))) (fun _ _ _ _=>(Yx (Ao Lk (A0 Bs (Ez (u1 hu8) (pv 1) (pv 0) (fun _ _=>rfl)) (pv 2)) Aj (Ax _)))) (fun _ _ _ _=>(pv 0))))
    (Ai (Bh (Ao (A17 (K:=K) hu8) (pv 6) (D0 Ag) (Ax _)) (Af (Bh (Ao (A18 (K:=K) hu8) (An (Xr (K:=K) (by rfl)) (by rfl) T.n_max Da (Ab (pv 6) Ag)) (pv 3) rfl) (Ai (At E1)) Aw)
    (Ai (Ck (Lp (K:=K) PySem.F.plainAttrs_list PySem.F.slot_list_append PySem.F.type_list_append C7 (pv 3) (Ab (An (Xr (K:=K) (by rfl)) (by rfl) T.n_max Da (Ab (pv 6) Ag)) Ag))))) Aw))))))
    (Ai (At E1))))),?_⟩
   refine Aq (t:=tIfS _ _ _) (fun σ' H'=>σ'=[some (.ref a),some (.int p),some x,none,none,none,none]/\H=H'/\∃ (l:Addr) (us:List V) (ts:List PT),o=some ts/\x=.ref l/\H l=some (.lst us)/\PapL H us ts/\ts.length=xs.length) ?_ fun key=>?_
   rotate_left
   . cases o with
     | none =>
       have q:=kq _ (Same.refl H)
       rcases hPs with ⟨l,us,rfl,hl⟩ | rfl
       . refine⟨_,rfl,_,rfl,.inr (.inl ⟨l,us,rfl,hl,_,rfl,?_⟩)⟩
         refine ifP rfl ?_
         exact q
       . refine⟨_,rfl,_,rfl,.inr (.inr ⟨rfl,_,rfl,?_⟩)⟩
         refine ifP rfl ?_
         exact q
     | some ts =>
       obtain⟨l,us,rfl,hl,hP,h100⟩:=hPs
       obtain⟨ws,hws,hwl⟩:=LT.len hL
       refine⟨_,rfl,_,rfl,.inl ⟨l,us,rfl,hl,_,rfl,?_⟩⟩
       refine ifN (by decide) ?_
       refine⟨_,rfl,l,us,rfl,.inl (.of hl),_,rfl,a,ws,rfl,.inl hws,rfl,_,rfl,?_⟩
       rw [hwl,hP.1]
       refine ite2 (fun h1=>?_) (fun h1=>?_)
       . have h2:¬ts.length=xs.length:=by
          intro z
          rw [z] at h1
          simp at h1
         have q:=kq _ (Same.refl H)
         have e:E4 xs p (some ts)=false:=by
          show (decide (ts.length=xs.length)&&_)=false
          rw [decide_eq_false h2]
          rfl
         rw [e] at q
         exact q
       . have h2:ts.length=xs.length:=by
          have:(ts.length:Int)=(xs.length:Int):=by simpa using h1
          omega
         exact key _ _ ⟨rfl,rfl,l,us,ts,rfl,rfl,hl,hP,h2⟩
   rintro _ _ ⟨rfl,rfl,l,us,ts,rfl,rfl,hl,hP,hlen⟩
   have hul:us.length=ts.length:=hP.1
   obtain⟨ws,hws,hwl⟩:=LT.len hL
   have no:∀ G,Same H G->(allP xs p ts ts.length&&decide (B5 xs p ts).Nodup)=false->Q (.bl false) G:=fun G s e=>by
    have q:=kq G s
    rw [show E4 xs p (some ts)=false by
     show (decide (ts.length=xs.length)&&(allP xs p ts ts.length&&decide (B5 xs p ts).Nodup))=false
     rw [e]
     simp] at q
    exact q
   refine Aq (fun σ' H'=>∃ Lo:Addr,σ'=[some (.ref a),some (.int p),some (.ref l),some (.ref Lo),none,none,none]/\H Lo=none/\Same H H'/\H' Lo=some (.lst [])) ?_ fun key=>?_
   rotate_left
   . exact ⟨A7 (by simp),fun Lo hLo=>key _ _ ⟨Lo,rfl,hLo,Same.new hLo,Ac⟩⟩
   rintro _ H1 ⟨Lo,rfl,nLo,s1,hLo⟩
   refine Aq (fun σ' H'=>∃ o4 o5 o6,σ'=[some (.ref a),some (.int p),some (.ref l),some (.ref Lo),o4,o5,o6]/\Same H H'/\allP xs p ts ts.length=true/\(B5 xs p ts).Nodup) ?_ fun key=>?_
   rotate_left
   . refine⟨_,rfl,a,ws,rfl,.inl (s1.seq hws),_,rfl,by omega,by omega,?_⟩
     rw [hwl,←hlen]
     refine Co (lo:=0) (n:=((ts.length:Nat):Int).toNat) (fun i σ G=>∃ o4 o5 o6,σ=[some (.ref a),some (.int p),some (.ref l),some (.ref Lo),o4,o5,o6]/\Same H G/\G Lo=some (.lst ((B5 xs p (ts.take i)).map V.int))/\allP xs p ts i=true/\(B5 xs p (ts.take i)).Nodup)
      ⟨none,none,none,rfl,s1,hLo,rfl,List.nodup_nil⟩ ?_ ?_
     . rintro i σ G hi ⟨o4,o5,o6,rfl,s2,hLo2,hal,hnd⟩
       rw [Int.toNat_natCast] at hi
       rw [show (0:Int)+(i:Int)=(i:Int) by omega]
       obtain⟨u,hu,hPu⟩:=hP.at hi
       have hlG:SqL K G l us:=.of (s2 _ _ hl)
       refine Aq (t:=tIfS _ _ _) (fun σ' G'=>σ'=[some (.ref a),some (.int p),some (.ref l),some (.ref Lo),some (.int (i:Int)),o5,o6]/\Same G G'/\D1 xs p i (ts.getD i .bad)=true) ?_ fun key2=>?_
       rotate_left
       . refine⟨_,rfl,_,rfl,_,rfl,_,rfl,_,rfl,l,us,_,_,rfl,rfl,hlG,Cg hu,a,xs,p,i,u,ts.getD i .bad,rfl,Rep.same s2 hL,by omega,hPu.same s2,fun G2 s3=>⟨_,rfl,?_⟩⟩
         cases hb:D1 xs p i (ts.getD i .bad) with
         | false =>
           refine ifP rfl ?_
           exact no _ (s2.trans s3) (by rw [A49 hi hb];rfl)
         | true =>
           refine ifN (by decide) ?_
           exact key2 _ _ ⟨rfl,s3,hb⟩
       rintro _ G2 ⟨rfl,s3,hb⟩
       have s23:=s2.trans s3
       obtain⟨ms,hms,hc,hg,hsm⟩:=m5 hb
       rw [hms] at hPu
       obtain⟨b,rfl,hbb,hm⟩:=hPu
       refine Aq (fun σ' G'=>∃ Ed,σ'=[some (.ref a),some (.int p),some (.ref l),some (.ref Lo),some (.int (i:Int)),some (.ref Ed),o6]/\Same G2 G'/\G' Ed=some (.dK (cK (cutI (zN xs ms ms.length))))) ?_ fun key2=>?_
       rotate_left
       . exact ⟨_,rfl,_,rfl,_,rfl,l,us,_,_,rfl,rfl,.of (s23 _ _ hl),Cg hu,a,b,xs,ms,levA xs i,rfl,Rep.same s23 hL,s23 _ _ hbb,hm,h4,hc,fun Ed G3 n3 s4 e4=>key2 _ _ ⟨Ed,rfl,s4,e4⟩⟩
       rintro _ G3 ⟨Ed,rfl,s4,hEd⟩
       have lz:=n0 h4 ms ms.length
       have lc:=Aj8 (zN xs ms ms.length)
       obtain⟨cm,hcm⟩:∃ cm,cm=cutI (zN xs ms ms.length):=⟨_,rfl⟩
       rw [←hcm] at hEd lc
       refine Aq (fun σ' G'=>∃ Sp,σ'=[some (.ref a),some (.int p),some (.ref l),some (.ref Lo),some (.int (i:Int)),some (.ref Ed),some (.ref Sp)]/\Same G3 G'/\G' Sp=some (.lst ((F8 p cm).map V.int))) ?_ fun key2=>?_
       rotate_left
       . refine .inr ⟨Ed,cK cm,hEd,fun hnd2 oo=>?_⟩
         have hndm:nd cm:=Gr.mp hnd2
         refine⟨_,rfl,Ed,oo,cK cm,rfl,Ac,fun D hD=>?_⟩
         obtain⟨hD0,nDE⟩:=Lu hD
         refine An9 (d:=Ed) (o:=oo) (kvs:=cK cm) (fun j zs τ F=>zs=(F8 p (cm.take j)).map V.int/\F Ed=some (.frz oo (.dK (cK cm)))/\F D=some (.lst zs)/\Kh Ed G3 F/\∃ o1,τ=[o1,some (.ref Ed),some (.int p)])
          ⟨rfl,by rw [Ae nDE.symm];exact Ac,Ac,?_,none,rfl⟩ (fun j zs τ F _ ⟨_,e,_⟩=>e) ?_ ?_
         . intro c q n1 e2
           rw [Ae (Al e2 hD0),Ae n1]
           exact e2
         . rintro j kk y zs τ F hx ⟨rfl,hEF,hDF,hkF,o1,rfl⟩
           obtain⟨q,hq,rfl,rfl⟩:=L5 hx
           have hlt:j<cm.length:=(List.getElem?_eq_some_iff.mp hq).1
           have hat:Bd cm q.1=some q.2:=Gy hndm (List.mem_of_getElem? hq)
           have st:F8 p (cm.take (j+1))=if q.2%p=0 then F8 p (cm.take j) else F8 p (cm.take j)++[q.1]:=by
            unfold F8
            rw [List.take_add_one,hq,List.filter_append,List.map_append]
            show _++(List.filter _ [q]).map (·.1)=_
            by_cases z:q.2%p=0
            . rw [if_pos z,List.filter_cons_of_neg (by simpa using z)]
              simp
            . rw [if_neg z,List.filter_cons_of_pos (by simpa using z)]
              rfl
           have ls:(F8 p (cm.take j)).length<=1000:=by
            unfold F8
            rw [List.length_map]
            have:=List.length_filter_le (fun q=>decide (q.2%p≠0)) (cm.take j)
            rw [List.length_take] at this
            omega
           refine⟨_,rfl,_,rfl,Ed,.int q.2,rfl,Hg (.inr ⟨oo,hEF⟩) hat,_,rfl,_,_,rfl,rfl,hp,rfl,_,rfl,?_⟩
           refine ite2 (fun h1=>?_) (fun h1=>?_)
           . have h2:¬q.2%p=0:=by simpa using h1
             rw [if_neg h2] at st
             refine⟨_,rfl,hDF,C5 (by rw [List.length_map];omega),by rw [st,List.map_append];rfl,by rw [Ae nDE.symm];exact hEF,Ac,fun c r n1 e2=>?_,_,rfl⟩
             rw [Ae (fun z=>by rw [z,hD0] at e2;cases e2)]
             exact hkF c r n1 e2
           . have h2:q.2%p=0:=by simpa using h1
             rw [if_pos h2] at st
             exact ⟨by rw [st],hEF,hDF,hkF,_,rfl⟩
         . rintro zs τ F ⟨rfl,hEF,hDF,hkF,_⟩
           rw [Dg,List.take_length] at hDF
           refine⟨hEF,key2 _ _ ⟨D,rfl,fun c q e2=>?_,by rw [Ae nDE];exact hDF⟩⟩
           by_cases z:c=Ed
           . subst z
             rw [hEd] at e2
             cases e2
             exact Ac
           . rw [Ae z];exact hkF c q z e2
       rintro _ G4 ⟨Sp,rfl,s5,hSp⟩
       have s45:=s4.trans s5
       have s34:=s3.trans s45
       have sAll:=s2.trans s34
       have hLo4:=s34 _ _ hLo2
       have same:=A14 (l:=F8 p cm) (l':=Xc xs p ms) (fun y=>by rw [hcm];exact u9 xs p ms y)
       have hsn:=Xb xs p ts hi
       rw [hms] at hsn
       have hal':allP xs p ts (i+1)=true:=by rw [Ap9,hal,hb];rfl
       have le:(B5 xs p (ts.take i)).length<=100:=by
        have:=Vb xs p (ts.take i)
        rw [List.length_take] at this
        omega
       refine⟨_,rfl,A7 (by simp),fun Em hEm=>?_⟩
       have s6:Same G4 (upd G4 Em (.lst [])):=Same.new hEm
       have hEm1:upd G4 Em (.lst []) Em=some (.lst []):=Ac
       generalize upd G4 Em (.lst [])=G5 at s6 hEm1 ⊢
       have hSp5:=s6 _ _ hSp
       refine⟨.lst (nums (F8 p cm)),.lst [],⟨Sp,_,rfl,.of hSp5,Ey.mpr rfl⟩,⟨Em,[],rfl,.of hEm1,rfl⟩,?_,_,rfl,?_⟩
       . have:=Jc (F8 p cm)
         show deps (nums (F8 p cm))+1<=8
         omega
       have hLo5:=s6 _ _ hLo4
       by_cases hz:F8 p cm=[]
       . refine ifN (by rw [hz];decide) ?_
         have hk:=same.2.mp hz
         have e0:endO xs p (.ch ms)=none:=by
          show (if Xc xs p ms=[] then none else _)=none
          rw [if_pos hk]
         rw [e0,List.append_nil] at hsn
         exact ⟨_,_,_,rfl,sAll.trans s6,by rw [hsn];exact hLo5,hal',by rw [hsn];exact hnd⟩
       . refine ifP ?_ ?_
         . cases hzz:F8 p cm with
           | nil=>exact absurd hzz hz
           | cons y r=>rfl
         have hk:Xc xs p ms≠[]:=fun z=>hz (same.2.mpr z)
         have e0:endO xs p (.ch ms)=some (mx (Xc xs p ms)):=by
          show (if Xc xs p ms=[] then none else _)=_
          rw [if_neg hk]
         rw [e0] at hsn
         have hsn':B5 xs p (ts.take (i+1))=B5 xs p (ts.take i)++[mx (F8 p cm)]:=by rw [hsn,same.1]
         refine⟨_,rfl,Sp,F8 p cm,rfl,.of hSp5,hz,fun m q1 q2=>?_⟩
         have em:=At2 q1 q2
         refine⟨_,rfl,.int m,nums (B5 xs p (ts.take i)),rfl,.inl ⟨Lo,_,rfl,.of hLo5,Ey.mpr rfl⟩,?_,_,rfl,?_⟩
         . have:=Jc (B5 xs p (ts.take i))
           omega
         have hany:((nums (B5 xs p (ts.take i))).any fun e=>eqD e (.int m))=decide (m∈B5 xs p (ts.take i)):=Av3 _ _
         rw [if_neg (by decide),hany]
         refine ite2 (fun h1=>?_) (fun h1=>?_)
         . have h2:m∈B5 xs p (ts.take i):=by simpa using h1
           refine no _ (sAll.trans s6) ?_
           have:¬(B5 xs p ts).Nodup:=Au4 (i+1) (by
            rw [hsn',List.nodup_append]
            intro z
            exact z.2.2 m h2 m (List.mem_singleton.mpr em) rfl)
           rw [decide_eq_false this]
           simp
         . have h2:¬m∈B5 xs p (ts.take i):=by simpa using h1
           refine⟨_,rfl,.inl ⟨rfl,_,.of hLo5⟩,_,rfl,Sp,F8 p cm,rfl,.of hSp5,hz,fun m' q1' q2'=>?_⟩
           have em':=At2 q1' q2'
           refine⟨Lo,_,_,rfl,rfl,hLo5,C5 (by rw [List.length_map];omega),_,_,_,rfl,(sAll.trans s6).turn nLo,?_,hal',?_⟩
           . rw [Ac,hsn',List.map_append,em']
             rfl
           . rw [hsn',List.nodup_append]
             refine⟨hnd,by simp,fun y hy z hz2=>?_⟩
             rw [List.mem_singleton.mp hz2,←em]
             intro e
             rw [e] at hy
             exact h2 hy
     . rintro σ G ⟨o4,o5,o6,rfl,s2,hLo2,hal,hnd⟩
       rw [Int.toNat_natCast] at hal hnd
       rw [List.take_length] at hnd
       exact key _ _ ⟨o4,o5,o6,rfl,s2,hal,hnd⟩
   rintro _ G ⟨o4,o5,o6,rfl,s2,hal,hnd⟩
   have q:=kq G s2
   rw [show E4 xs p (some ts)=true by
    show (decide (ts.length=xs.length)&&(allP xs p ts ts.length&&decide (B5 xs p ts).Nodup))=true
    rw [decide_eq_true hlen,hal,decide_eq_true hnd]
    rfl] at q
   exact q
abbrev Es:Stmt:=top 12
theorem Yu:FnScope ["shape","k","thing"] ["shape","k","thing"] (Ah Es):=⟨rfl,rfl,rfl,by decide +kernel,rfl,by decide +kernel,by decide +kernel⟩
theorem Zd {f:Addr}{fd:FuncData} (F:Fun K "is_chain" "is_chain" Es f fd) (T:Txt K mg Ad) (P7:Has P w K mg base "is_part" ["shape","k","place","number"] 4 (Kx K)):FnOk P w K mg base CX0 5 f fd ["shape","k","thing"] (Fc K):=by
 refine F.ok Yu (fun vs H Q E h=>?_) (fun Bo A outer s H vs Q E hr h=>?_)
 . obtain⟨a,xs,k,x,t,rfl,hL,hT,kq⟩:=h
   rfl
 . obtain⟨a,xs,k,x,t,rfl,hL,hT,kq⟩:=h
   refine⟨_,(Af (Bh (Df (De (An (Xv (K:=K)) (by rfl) T.n_isinstance A3 (Ab (pv 2) (Ab (Fp (v:=.ty "dict") rfl T.n_dict Ds rfl) Ag))))) (Ai (At E1)) Aw)
    (Ai (At (An (Gg (K:=K) (by rfl)) (by rfl) T.n_all Ji (Ab (l9 (Ct (N':=["place","number","shape","k"]) (cap:=[none,none,some 0,some 1]) (by rfl) (by kernel_rfl) (Ah3 (pv 2)) (fun _ _ _ _=>(Ip (K:=K) (n:=2) (by rfl) (Bu (Au (i:=0) A92 (by rfl) (by first | exact Or.inl rfl | exact Or.inr rfl)) (Bu (Au (i:=1) A92 (by rfl) (by first | exact Or.inl rfl | exact Or.inr rfl)) Ii)))) (fun _ _ _ _=>Cs) (fun _ _ _ _=>(Am P7 hr (by rfl) (Ab (pv 2) (Ab (pv 3) (Ab (pv 0) (Ab (pv 1) Ag)))))))) Ag))))),?_⟩
   cases t with
   | data d =>
     refine⟨_,rfl,x,"dict",rfl,.inr (.inr (.inr (.inr (.inr rfl)))),.inl ⟨.d (vD x),hT.1.rep,_,rfl,?_⟩⟩
     rw [k9 hT.1]
     refine ifP rfl ?_
     exact kq _ (Same.refl _)
   | lst =>
     obtain⟨b,us,rfl,hb⟩:=hT
     refine⟨_,rfl,_,"dict",rfl,.inr (.inr (.inr (.inr (.inr rfl)))),.inr (.inr ⟨b,us,rfl,hb,_,rfl,?_⟩)⟩
     refine ifP (by decide) ?_
     exact kq _ (Same.refl _)
   | dk kvs =>
     obtain⟨b,rfl,hb,hm,hv⟩:=hT
     refine⟨_,rfl,_,"dict",rfl,.inr (.inr (.inr (.inr (.inr rfl)))),.inl ⟨.dic,⟨b,kvs,rfl,.inl hb⟩,_,rfl,?_⟩⟩
     refine ifN (by decide) ?_
     refine .inr ⟨b,kvs,hb,fun hnd o=>?_⟩
     refine⟨_,rfl,.inl ⟨b,o,kvs,rfl,Ac,fun D hD=>?_⟩⟩
     obtain⟨hD0,nDb⟩:=Lu hD
     refine Nr (d:=b) (o:=o) (kvs:=kvs) (fun i zs τ H1=>zs=((kvs.take i).map fun p=>E2 xs k (vD (kV p.1)) (vD p.2)).map V.bl/\H1 b=some (.frz o (.dK kvs))/\H1 D=some (.lst zs)/\Kh b H H1/\∃ o1 o2,τ=[o1,o2,some (.ref a),some (.int k)])
      ⟨rfl,?_,Ac,?_,none,none,rfl⟩ (fun i zs τ H1 _ ⟨_,e,_⟩=>e) ?_ ?_
     . rw [Ae nDb.symm];exact Ac
     . intro c q n1 e2
       rw [Ae (Al e2 hD0),Ae n1]
       exact e2
     . rintro i kk x zs τ H1 p hx ⟨rfl,hb1,hD1,hk1,o1,o2,rfl⟩ hp
       have hlt:i<kvs.length:=(List.getElem?_eq_some_iff.mp hx).1
       have sp:Same H1 (upd H1 p (.tup [kV kk,x])):=Same.new hp
       refine⟨p,_,rfl,.of Ac,rfl,_,_,rfl,_,_,rfl,rfl,?_⟩
       refine⟨_,rfl,_,rfl,_,rfl,_,rfl,a,xs,k,kV kk,x,_,_,rfl,Rep.same sp (Rep.x hk1 hb hL),(Ag0 kk).rep,(hv _ (List.mem_of_getElem? hx)).rep,?_⟩
       refine⟨sp _ _ hD1,C5 (by simp;omega),?_,?_,Ac,fun c r n1 e2=>?_,_,_,rfl⟩
       . rw [List.take_add_one,hx,List.map_append,List.map_append]
         rfl
       . rw [Ae nDb.symm];exact sp _ _ hb1
       . rw [Ae (fun z=>by rw [z,hD0] at e2;cases e2)]
         exact sp _ _ (hk1 c r n1 e2)
     . rintro zs τ H1 ⟨rfl,hb1,hD1,hk1,_⟩
       rw [List.take_length] at hD1
       refine⟨hb1,D,kvs.map fun p=>E2 xs k (vD (kV p.1)) (vD p.2),rfl,.of (by rw [Ae nDb];exact hD1),?_⟩
       rw [List.all_map]
       refine kq _ fun c q e2=>?_
       by_cases z:c=b
       . subst z
         rw [hb] at e2
         cases e2
         exact Ac
       . rw [Ae z]
         exact hk1 c q z e2
   | odd kvs =>
     obtain⟨b,rfl,hO,hm,hv⟩:=hT
     refine⟨_,rfl,_,"dict",rfl,.inr (.inr (.inr (.inr (.inr rfl)))),.inr (.inl ⟨b,kvs,rfl,hO,_,rfl,?_⟩)⟩
     refine ifN (by decide) ?_
     obtain⟨hsys,o,hb,hOb⟩:=hO
     refine .inl ⟨_,rfl,.inr ⟨b,o,kvs,rfl,hsys,hb,hOb,fun D hD=>?_⟩⟩
     refine i3 (d:=b) (o:=o) (kvs:=kvs) (fun i zs τ H1=>zs=((kvs.take i).map fun p=>E2 xs k (vD p.1) (vD p.2)).map V.bl/\H1 D=some (.lst zs)/\Same H H1/\∃ o1 o2,τ=[o1,o2,some (.ref a),some (.int k)])
      ⟨rfl,Ac,Same.new hD,none,none,rfl⟩ (fun i zs τ H1 _ ⟨_,_,s1,_⟩=>s1 _ _ hb) ?_ ?_
     . rintro i kk x zs τ H1 p hx ⟨rfl,hD1,s1,o1,o2,rfl⟩ hp
       have hlt:i<kvs.length:=(List.getElem?_eq_some_iff.mp hx).1
       have sp:Same H1 (upd H1 p (.tup [kk,x])):=Same.new hp
       obtain⟨hv1,hv2⟩:=hv _ (List.mem_of_getElem? hx)
       refine⟨p,_,rfl,.of Ac,rfl,_,_,rfl,_,_,rfl,rfl,?_⟩
       refine⟨_,rfl,_,rfl,_,rfl,_,rfl,a,xs,k,kk,x,_,_,rfl,Rep.same (s1.trans sp) hL,(hv1.same (s1.trans sp)).rep,hv2.rep,?_⟩
       refine⟨sp _ _ hD1,C5 (by simp;omega),?_,Ac,(s1.trans sp).turn hD,_,_,rfl⟩
       rw [List.take_add_one,hx,List.map_append,List.map_append]
       rfl
     . rintro zs τ H1 ⟨rfl,hD1,s1,_⟩
       rw [List.take_length] at hD1
       refine⟨D,kvs.map fun p=>E2 xs k (vD p.1) (vD p.2),rfl,.of hD1,?_⟩
       rw [List.all_map]
       exact kq _ s1
abbrev B2:Stmt:=U6 (top 41) 1
theorem Rh:FnScope ["self","thing","place","faces","papers","birth"] ["self","thing"] (Ah B2):=⟨rfl,rfl,rfl,by decide +kernel,rfl,by decide +kernel,by decide +kernel⟩
theorem Dv:(["self","thing","place","faces","papers","birth"]:List Str).Nodup:=by decide +kernel
theorem Rr {f:Addr}{fd:FuncData} (F:Fun K "grow" "Growth.grow" B2 f fd) (T:Txt K mg Ad) (Ir:Has P w K mg base "check_size" ["pieces"] 1 (Tm K)) (Dr:Has P w K mg base "add_faces" ["chain","faces","number"] 2 (Fd K)) (Dq:HasM P w K mg base Ad "settled" ["self","sheet","edge"] 3 (Ie K Ad)) (Al2:Has P w K mg base "fits" ["shape","thing"] 4 (To K)) (Cn:Has P w K mg base "counted" ["chain","prime"] 1 (F9 K)):FnOk P w K mg base CX0 5 f fd ["self","thing"] (O4 K Ad):=by
 refine F.ok Rh (fun vs H Q E h=>?_) (fun Bo A outer s H vs Q E hr h=>?_)
 . obtain⟨g,pc,sh,ed,en,v,p,xs,q,es,ss,bs,rfl,x,hv,hfd,hlt,shx,k3⟩:=h
   rfl
 . obtain⟨g,pc,sh,ed,en,v,p,xs,q,es,ss,bs,rfl,x,hv,hfd,hlt,shx,k3⟩:=h
   have hu8:(A.deeper (PyProof.Rows.envOfC "Growth.grow" (Ah B2) s.heap.objs.size f Bo)).units+8<cLine:=by have:=hr.units;omega
   refine⟨_,(Af (Ar (i:=2) Dv (by rfl) (by first | exact Or.inl rfl | exact Or.inr rfl) (An (Ap (K:=K)) (by rfl) T.n_len PySem.boot_len (Ab (B8 (K:=K) (pv 0)) Ag)))
    (Af (Bh (Df (De (Am Al2 hr (by rfl) (Ab (B8 (K:=K) (pv 0)) (Ab (pv 1) Ag))))) (Ai Li) Aw)
    (Af (Ck (Am Ir hr (by rfl) (Ab (A0 (Iq (K:=K)) (B8 (K:=K) (pv 0)) (D0 (Ab (pv 1) Ag))) Ag)))
    (Af (Ar (i:=3) Dv (by rfl) (by first | exact Or.inl rfl | exact Or.inr rfl) Fg)
    (Af (Ck (Am Dr hr (by rfl) (Ab (pv 3) (Ab (pv 1) (Ab Aj Ag)))))
    (Af (Ar (i:=4) Dv (by rfl) (by first | exact Or.inl rfl | exact Or.inr rfl) (Ud (pv 0) T.cl_Growth Dq hr (Ab (Y7 (Oq (pv 2) Aj T6) (by rfl) (by rfl) (by intro z;cases z) (Nat.le_of_ble_eq_true rfl)) (Ab (Am Cn hr (by rfl) (Ab (pv 3) (Ab (B8 (K:=K) (pv 0)) Ag))) Ag))))
    (Af (Ck (Lp (K:=K) PySem.F.plainAttrs_list PySem.F.slot_list_append PySem.F.type_list_append C7 (B8 (K:=K) (pv 0)) (Ab (pv 1) Ag)))
    (Af (Ck (Lp (K:=K) PySem.F.plainAttrs_list PySem.F.slot_list_append PySem.F.type_list_append C7 (B8 (K:=K) (pv 0)) (Ab (Cc (Ce (K:=K)) (pv 4) Aj (fun _ _=>rfl)) Ag)))
    (Af (Ck (Lp (K:=K) PySem.F.plainAttrs_list PySem.F.slot_list_append PySem.F.type_list_append C7 (B8 (K:=K) (pv 0)) (Ab (Cc (Ce (K:=K)) (pv 4) Aj (fun _ _=>rfl)) Ag)))
    (Af (Bh (Ao Fr (An Jh (by rfl) T.n_len PySem.boot_len (Ab (Cc (Ce (K:=K)) (pv 4) Aj (fun _ _=>rfl)) Ag)) Aj (Ax _)) (Ai (At Wi)) Aw)
    (Af (Ar (i:=5) Dv (by rfl) (by first | exact Or.inl rfl | exact Or.inr rfl) (An (Jg (by rfl)) (by rfl) T.n_max Da (Ab (Cc (Ce (K:=K)) (pv 4) Aj (fun _ _=>rfl)) Ag)))
    (Af (Pe (u1 hu8) (B8 (K:=K) (pv 0)) (pv 5) (pv 2) (by rfl))
    (Ai (At (pv 5))))))))))))))),?_⟩
   obtain⟨dx,fs,hg,l1,l2,l3,l4,l5,lm⟩:=x.ob
   obtain⟨us,hpc,r⟩:=x.pcs
   have hul:us.length=xs.length:=by have:=r.length;simpa using this
   have hp2:=x.pr.1.two
   have hp98:=x.pr.2
   have n40:=x.gw.n40
   have hcnt:=Af8 x.gw.shp
   refine⟨_,rfl,g,Ad,dx,fs,_,rfl,hg,T.cl_Growth,T.na_Growth_pieces,l2,pc,us,rfl,.inl (.of hpc),?_⟩
   rw [hul]
   refine⟨_,rfl,g,Ad,dx,fs,_,rfl,hg,T.cl_Growth,T.na_Growth_pieces,l2,_,rfl,pc,v,.d (tI q),xs,rfl,⟨pc,us,rfl,.of hpc,r⟩,hv,fun H1 s1=>⟨_,rfl,?_⟩⟩
   have x1:=x.same s1
   have hg1:=s1 _ _ hg
   have hpc1:=s1 _ _ hpc
   have hf:Bb6 xs (.d (tI q))=true:=hfd
   refine ifN (by rw [hf];decide) ?_
   have hFit:=A33 hcnt hfd
   refine⟨_,rfl,g,Ad,dx,fs,_,rfl,hg1,T.cl_Growth,T.na_Growth_pieces,l2,_,rfl,A7 (by simp),fun m1 hm1=>⟨pc,m1,us,[v],rfl,rfl,?_,.of Ac,A7 (by simp;omega),fun m2 hm2=>?_⟩⟩
   . exact .of (Same.new hm1 _ _ hpc1)
   have s3:=(s1.trans (Same.new (o:=.lst [v]) hm1)).trans (Same.new (o:=.lst (us++[v])) hm2)
   refine⟨m2,us++[v],rfl,.of Ac,by simp;omega,?_⟩
   generalize upd (upd H1 m1 (.lst [v])) m2 (.lst (us++[v]))=H3 at s3
   have x3:=x.same s3
   refine fun D hD=>?_
   have s4:Same H3 (upd H3 D (.dK (cK []))):=Same.new hD
   refine⟨_,rfl,_,rfl,D,v,[],q,1,rfl,Ac,Rep.same (s3.trans s4) hv,?_,fun H5 st hD5=>?_⟩
   . have:=hFit.cnt
     simp;omega
   have s5:Same H H5:=s3.trans (Af4 hD st)
   have x5:=x.same s5
   have hg5:=s5 _ _ hg
   have kad:∀ y∈Ay (addF [] q 1),y∈q:=fun y hy=>Wx (Nat.le_refl _) hy
   have nad:nd (addF [] q 1):=Ot (ms:=[]) (by simp [nd]) q 1 q.length
   have lev:∀ y∈q,0<=y/\y<(xs.length:Int)/\(xs.getD y.toNat []).length-1+1=q.length-1:=fun y hy=>by
    obtain⟨w,hw,hlv⟩:=hFit.bel y hy
    have h0:=hFit.low y hy
    have hl:=(List.getElem?_eq_some_iff.mp hw).1
    refine⟨h0,by omega,?_⟩
    rw [List.getD_eq_getElem?_getD,hw]
    exact hlv
   have lad:(addF [] q 1).length<=41:=Fh nad fun y hy=>by
    have:=lev y (kad y hy)
    omega
   refine⟨_,rfl,g,dx,fs,rfl,hg5,lm.2.1,fun P hP=>⟨_,rfl,Ac,[(.inl (xs.length:Int),.int 1)],rfl,by simp,?_⟩⟩
   obtain⟨H6,e6⟩:∃ Z,Z=upd (upd H5 P (.dK [])) P (.dK (C8 [] [((.inl (xs.length:Int):Key),V.int 1)])):=⟨_,rfl⟩
   have hP6:H6 P=some (.dK (cK [((xs.length:Int),1)])):=by rw [e6];exact Ac
   have s6':Same H5 H6:=by rw [e6];exact (Same.new (o:=.dK []) hP).turn hP
   rw [←e6]
   clear e6
   have s6:=s5.trans s6'
   refine⟨_,rfl,_,rfl,g,Ad,dx,fs,_,rfl,s6 _ _ hg,T.cl_Growth,T.na_Growth_prime,l1,D,addF [] q 1,p,rfl,s6' _ _ hD5,by omega,nad,by omega,fun F H7 hF s7' hF7=>?_⟩
   have s7:=s6.trans s7'
   have x7:=x.same s7
   have en5:=x5.ens
   have en6:=s6 _ _ x.ens
   refine⟨g,pc,sh,ed,en,P,F,p,xs,es,ss,bs,[((xs.length:Int),1)],modI p (addF [] q 1),q.length-1,q,rfl,x7,s7' _ _ hP6,hF7,(Al en5 hP).symm,(Al en6 hF).symm,⟨?_,?_⟩,Ai8 nad (by omega),?_,?_,shx,Ol.first (fun f hf=>(lev f hf).1),rfl,?_⟩
   . simp [nd]
   . intro y hy
     simp at hy
     subst hy
     exact ⟨by simp,hp2⟩
   . intro y hy
     simp [Ay] at hy
     omega
   . exact fun y hy=>lev y (kad y (At4 hy))
   intro t s' e' ms' me' H8 s8' ht hs' he' ns' ne' ok1 ok2 kk1 kk2 hno nok
   have s8:=s7.trans s8'
   have x8:=x.same s8
   have hg8:=s8 _ _ hg
   have hpc8:=s8 _ _ hpc
   have r8:=Reps.same s8 r
   have hv8:TI K H8 v q:=Rep.same s8 hv
   obtain⟨ds,hed,dl,dg⟩:=x8.eds.ex
   obtain⟨cs,hsh,cl,cg⟩:=x8.shs.ex
   have dsn:=Qn dl dg he' ne'
   have csn:=Qn cl cg hs' ns'
   have dl40:ds.length<=40:=by rw [dl,x.gw.le];exact n40
   have cl40:cs.length<=40:=by rw [cl,x.gw.ls];exact n40
   obtain⟨n1,n2,n3⟩:=x.ne
   have en8:=x8.ens
   have gp:g≠pc:=Gs hg8 hpc8 (fun z=>by cases z)
   have gs:g≠sh:=Gs hg8 hsh (fun z=>by cases z)
   have ge:g≠ed:=Gs hg8 hed (fun z=>by cases z)
   have tp:t≠pc:=Gs ht hpc8 (fun z=>by cases z)
   have ts:t≠sh:=Gs ht hsh (fun z=>by cases z)
   have te:t≠ed:=Gs ht hed (fun z=>by cases z)
   have ep:e'≠pc:=Gs he' hpc8 (fun z=>by cases z)
   have es':e'≠sh:=Gs he' hsh (fun z=>by cases z)
   have ee:e'≠ed:=Gs he' hed (fun z=>by cases z)
   have np:en≠pc:=Gs en8 hpc8 (fun z=>by cases z)
   have nsh:en≠sh:=Gs en8 hsh (fun z=>by cases z)
   have ned:en≠ed:=Gs en8 hed (fun z=>by cases z)
   have rs:Reps K H8 (us++[v]) ((xs++[q]).map tI):=by
    rw [List.map_append]
    exact Reps.append r8 ⟨_,_,rfl,hv8,rfl⟩
   refine⟨_,rfl,g,Ad,dx,fs,_,rfl,hg8,T.cl_Growth,T.na_Growth_pieces,l2,.inl ⟨rfl,us,.of hpc8⟩,_,rfl,pc,us,v,rfl,rfl,hpc8,C5 (by omega),?_⟩
   refine⟨_,rfl,g,Ad,dx,fs,_,rfl,(by rw [Ae gp];exact hg8),T.cl_Growth,T.na_Growth_sheets,l3,.inl ⟨rfl,_,.of (by rw [Ae n1.symm];exact hsh)⟩,_,rfl,t,_,_,_,rfl,rfl,.of (by rw [Ae tp];exact ht),at0 _ _,sh,_,_,rfl,rfl,(by rw [Ae n1.symm];exact hsh),C5 (by rw [List.length_map];omega),?_⟩
   refine⟨_,rfl,g,Ad,dx,fs,_,rfl,(by rw [Ae gs,Ae gp];exact hg8),T.cl_Growth,T.na_Growth_edges,l4,.inl ⟨rfl,_,.of (by rw [Ae n3.symm,Ae n2.symm];exact hed)⟩,_,rfl,t,_,_,_,rfl,rfl,.of (by rw [Ae ts,Ae tp];exact ht),at1 _ _ _,ed,_,_,rfl,rfl,(by rw [Ae n3.symm,Ae n2.symm];exact hed),C5 (by rw [List.length_map];omega),?_⟩
   rw [m9,m9]
   have put:=fun bs' gw=>x8.put (us:=us++[v]) (ds:=ds++[e']) (cs:=cs++[s']) (xs':=xs++[q]) (es':=es++[me']) (ss':=ss++[ms']) (bs':=bs') rs dsn.1 dsn.2 csn.1 csn.2 gw
   have gwn:=fun bs' hb=>x.gw.grow (bs':=bs') hFit hlt ⟨ok1,kk1,ok2,kk2,hno⟩ hb
   have frn:=fun bs'=>FrG.four (pc:=pc) (sh:=sh) (ed:=ed) (en:=en) (o1:=.lst (us++[v])) (o2:=.lst ((cs++[s']).map V.ref)) (o3:=.lst ((ds++[e']).map V.ref)) (o4:=.dK (cK bs')) s8
   obtain⟨H9,e9⟩:∃ Z,Z=upd (upd (upd H8 pc (.lst (us++[v]))) sh (.lst ((cs++[s']).map V.ref))) ed (.lst ((ds++[e']).map V.ref)):=⟨_,rfl⟩
   rw [←e9] at put frn ⊢
   have hg9:H9 g=some (.ins Ad dx fs):=by rw [e9,Ae ge,Ae gs,Ae gp];exact hg8
   have ht9:H9 t=some (.tup [.ref s',.ref e']):=by rw [e9,Ae te,Ae ts,Ae tp];exact ht
   have he9:H9 e'=some (.dK (cK me')):=by rw [e9,Ae ee,Ae es',Ae ep];exact he'
   have en9:H9 en=some (.dK (cK bs)):=by rw [e9,Ae ned,Ae nsh,Ae np];exact en8
   clear e9
   refine Ia (fun σ' H'=>σ'=[some (.ref g),some v,some (.int (xs.length:Int)),some (.ref D),some (.ref t),none]/\H9=H') ?_ fun key0=>key0 _ _ ⟨rfl,rfl⟩
   rintro _ _ ⟨rfl,rfl⟩
   refine⟨_,rfl,t,_,_,_,rfl,rfl,.of ht9,at1 _ _ _,e',cK me',rfl,he9,rfl,_,rfl,?_⟩
   rw [Dg]
   by_cases hz:me'=[]
   . subst hz
     refine ifP (by simp) ?_
     have w:=put bs (gwn bs (.inl ⟨rfl,rfl⟩))
     have f:=frn bs
     rw [Av7 en9] at w f
     exact k3 _ _ _ _ _ f w (shx.grow x.gw nok) (.inl ⟨rfl,rfl⟩)
   refine ifN (by simpa using hz) ?_
   refine⟨_,rfl,t,_,_,_,rfl,rfl,.of ht9,at1 _ _ _,e',Ay me',cK me',rfl,he9,Z3 me',Z2 hz,fun b hb1 hb2=>?_⟩
   have tb:Top me' b:=⟨hb1,hb2⟩
   refine⟨_,rfl,_,rfl,g,Ad,dx,fs,_,rfl,hg9,T.cl_Growth,T.na_Growth_enders,l5,_,rfl,en,_,rfl,Qe en9 (Nat.le_trans x.gw.blen (by decide)),?_⟩
   refine⟨_,rfl,?_⟩
   obtain⟨b1,b2,b3⟩:=kk2 b hb1
   exact k3 _ _ _ _ _ (frn _) (put _ (gwn _ (.inr ⟨b,tb,rfl⟩))) (shx.grow x.gw nok) (.inr ⟨b,tb,rfl⟩)
abbrev Az:Stmt:=top 14
theorem Fm:FnScope ["shape","thing","bound"] ["shape","thing","bound"] (Ah Az):=⟨rfl,rfl,rfl,by decide +kernel,rfl,by decide +kernel,by decide +kernel⟩
theorem Fs {f:Addr}{fd:FuncData} (F:Fun K "is_chain_of_some_level" "is_chain_of_some_level" Az f fd) (T:Txt K mg Ad) (Ev:Has P w K mg base "is_chain" ["shape","k","thing"] 5 (Fc K)):FnOk P w K mg base CX0 6 f fd ["shape","thing","bound"] (Fj K):=by
 refine F.ok Fm (fun vs H Q E h=>?_) (fun Bo A outer s H vs Q E hr h=>?_)
 . obtain⟨a,x,xs,n,t,rfl,hL,hT,hn,kq⟩:=h
   rfl
 . obtain⟨a,x,xs,n,t,rfl,hL,hT,hn,kq⟩:=h
   refine⟨_,(Ai (At (An (Ab6 (K:=K) (by rfl)) (by rfl) T.n_any Ap4 (Ab (Ct (N':=["k","shape","thing"]) (cap:=[none,some 0,some 1]) (by rfl) (by kernel_rfl) (Cl (by rfl) T.n_range (Ab (pv 2) Ag)) (fun _ _ _ _=>(Au (i:=0) Be3 (by rfl) (by first | exact Or.inl rfl | exact Or.inr rfl))) (fun _ _ _ _=>Cs) (fun _ _ _ _=>(Am Ev hr (by rfl) (Ab (pv 1) (Ab (pv 0) (Ab (pv 2) Ag)))))) Ag)))),?_⟩
   refine⟨_,rfl,_,rfl,by omega,by omega,fun D hD=>?_⟩
   refine Hh (fun i zs τ H1=>Same H H1/\H1 D=some (.lst zs)/\zs=((List.range i).map fun (k:Nat)=>Gj xs (k:Int) t).map V.bl/\∃ o,τ=[o,some (.ref a),some x])
    ⟨Same.new hD,Ac,rfl,none,rfl⟩ ?_ ?_
   . rintro i zs τ H1 hi ⟨s1,hD1,hzs,o,rfl⟩
     have hi2:i<n:=by omega
     refine⟨_,rfl,_,rfl,_,rfl,a,xs,_,x,t,rfl,Rep.same s1 hL,hT.same s1,fun H2 s2=>?_⟩
     refine⟨s2 _ _ hD1,C5 (by rw [hzs,List.length_map,List.length_map,List.length_range];omega),(s1.trans s2).turn hD,Ac,?_,_,rfl⟩
     rw [List.range_succ,List.map_append,List.map_append,hzs,show ((0:Int)+(i:Int))=(i:Int) by omega]
     rfl
   . rintro zs τ H1 ⟨s1,hD1,hzs,_⟩
     rw [Int.toNat_natCast] at hzs
     refine⟨D,(List.range n).map fun (k:Nat)=>Gj xs (k:Int) t,rfl,.of (by rw [hD1,hzs]),?_⟩
     rw [List.any_map]
     exact kq _ s1
abbrev Di:Stmt:=top 39
theorem Yt:FnScope ["shape","prime","place","thing"] ["shape","prime","place","thing"] (Ah Di):=⟨rfl,rfl,rfl,by decide +kernel,rfl,by decide +kernel,by decide +kernel⟩
theorem Zc {f:Addr}{fd:FuncData} (F:Fun K "is_paper" "is_paper" Di f fd) (T:Txt K mg Ad) (Ev:Has P w K mg base "is_chain" ["shape","k","thing"] 5 (Fc K)) (Cj:Has P w K mg base "level_of" ["piece"] 1 (Dh K)):FnOk P w K mg base CX0 6 f fd ["shape","prime","place","thing"] (O0 K):=by
 refine F.ok Yt (fun vs H Q E h=>?_) (fun Bo A outer s H vs Q E hr h=>?_)
 . obtain⟨a,xs,p,i,x,t,rfl,hL,hi,hP,kq⟩:=h
   rfl
 . obtain⟨a,xs,p,i,x,t,rfl,hL,hi,hP,kq⟩:=h
   have hu8:(A.deeper (PyProof.Rows.envOfC "is_paper" (Ah Di) s.heap.objs.size f Bo)).units+8<cLine:=by have:=hr.units;omega
   refine⟨_,(Af (Bh (PW.pt (Lh (Df (De (Am Ev hr (by rfl) (Ab (pv 0) (Ab (Am Cj hr (by rfl) (Ab (Cc (Bi (K:=K)) (pv 0) (pv 2) (fun _ _=>rfl)) Ag)) (Ab (pv 3) Ag)))))) (Ih (Ao Lk (As3 (u1 hu8) (pv 3) (pv 2) ⟨by rfl,by rfl,by rfl,by rfl⟩) Aj (Ax _))))) (Ai (At E1)) Aw)
    (Ai (At (N3 (Ij Fr (An (Jg (by rfl)) (by rfl) T.n_max Da (Ab (pv 3) Ag)) (pv 2) (Ax _)) (N2 (An (Gg (K:=K) (by rfl)) (by rfl) T.n_all Ji (Ab (l9 (Ct (N':=["number","prime"]) (cap:=[none,some 1]) (by rfl) (by kernel_rfl) (Ah1 (pv 3)) (fun _ _ _ _=>(Au (i:=0) A99 (by rfl) (by first | exact Or.inl rfl | exact Or.inr rfl))) (fun _ _ _ _=>Cs) (fun _ _ _ _=>(m3 Oh Oh Aj (pv 0) (pv 1))))) Ag))))))),?_⟩
   obtain⟨Tt,hT,hTO,hch⟩:=hP.thing
   obtain⟨us,v,hus,hat,tv⟩:=LT.get hL (i:=(i:Int)) (by omega) (by omega)
   rw [Int.toNat_natCast] at tv
   refine Aq (t:=tIfS _ _ _) (fun σ' H'=>σ'=[some (.ref a),some (.int p),some (.int (i:Int)),some x]/\Same H H'/\∃ (b:Addr) (ms:Ms),t=.ch ms/\x=.ref b/\H b=some (.dK (cK ms))/\ms.length<=100/\D6 xs (levA xs i) ms=true/\Bd ms (i:Int)=some 1) ?_ fun key=>?_
   rotate_left
   . refine⟨_,rfl,_,rfl,_,rfl,a,us,_,_,rfl,rfl,hus,hat,v,nums (xs.getD i []),rfl,.inr tv,_,rfl,a,xs,_,x,Tt,rfl,hL,hT,fun H1 s1=>?_⟩
     rw [show (nums (xs.getD i [])).length=(xs.getD i []).length from List.length_map ..,hch]
     refine⟨_,rfl,?_⟩
     show _
     cases hc:chP xs (levA xs i) t with
     | false =>
       rw [show chP xs (levI (xs.getD i []).length) t=false from hc]
       refine ifP rfl ?_
       have q:=kq _ s1
       rw [m4 hc] at q
       exact q
     | true =>
       rw [show chP xs (levI (xs.getD i []).length) t=true from hc]
       refine ifN (by decide) ?_
       cases t with
       | bad=>cases hc
       | ch ms =>
         obtain⟨b,rfl,hb,hm⟩:=hP
         have hb1:=s1 _ _ hb
         refine⟨_,rfl,b,rfl,.inl ⟨_,.inl hb1⟩,_,rfl,_,Ve (.inl hb1),?_⟩
         have no:¬getI ms (i:Int)=1->Q (.bl false) H1:=fun h2=>by
          have q:=kq _ s1
          have e:D1 xs p i (.ch ms)=false:=by
           show (D6 xs (levA xs i) ms&&(decide (getI ms (i:Int)=1)&&_))=false
           rw [decide_eq_false h2]
           simp
          rw [e] at q
          exact q
         cases e:Bd ms (i:Int) with
         | none =>
           refine⟨rfl,_,rfl,?_⟩
           refine ifP (by decide) ?_
           refine no ?_
           unfold getI
           rw [e]
           decide
         | some y =>
           refine⟨rfl,_,rfl,?_⟩
           refine ite2 (fun h1=>?_) (fun h1=>?_)
           . refine no ?_
             unfold getI
             rw [e]
             simpa using h1
           . have h2:y=1:=by simpa using h1
             subst h2
             exact key _ _ ⟨rfl,s1,b,ms,rfl,rfl,hb,hm,hc,e⟩
   rintro _ H1 ⟨rfl,s1,b,ms,rfl,rfl,hb,hm,hc,hg⟩
   have hb1:=s1 _ _ hb
   have hmem:((i:Int),(1:Int))∈ms:=Ll hg
   have pe:D1 xs p i (.ch ms)=Ff i p ms:=by
    show (D6 xs (levA xs i) ms&&(decide (getI ms (i:Int)=1)&&Ff i p ms))=_
    rw [hc,decide_eq_true (show getI ms (i:Int)=1 by unfold getI;rw [hg];rfl)]
    rfl
   rw [pe] at kq
   have hk:(cK ms).map (·.1)=(ms.map (·.1)).map (fun k=>(.inl k:Key)):=by
    unfold cK
    rw [List.map_map,List.map_map]
    rfl
   have hne:ms.map (·.1)≠[]:=fun z=>by
    have:=List.mem_map_of_mem (f:=(·.1)) hmem
    rw [z] at this
    cases this
   refine⟨_,rfl,b,ms.map (·.1),cK ms,rfl,hb1,hk,hne,fun m h1 h2=>?_⟩
   refine⟨_,rfl,rfl,_,rfl,?_⟩
   refine ite2 (fun h3=>?_) (fun h3=>?_)
   rotate_left
   . have h4:¬m=(i:Int):=by simpa using h3
     have hs:Ff i p ms=false:=by
      obtain⟨q,hq,e⟩:=List.mem_map.mp h1
      have h5:=h2 (i:Int) (List.mem_map.mpr ⟨_,hmem,rfl⟩)
      have h6:¬q.1<=(i:Int):=by
       have e':q.1=m:=e
       omega
      exact List.all_eq_false.mpr ⟨q,hq,by rw [decide_eq_false h6];simp⟩
     have z:=kq _ s1
     rw [hs] at z
     exact z
   have h4:m=(i:Int):=by simpa using h3
   subst h4
   refine .inr ⟨b,cK ms,hb1,fun hnd o=>?_⟩
   refine⟨_,rfl,b,o,cK ms,rfl,Ac,fun D hD=>?_⟩
   obtain⟨hD0,nDb⟩:=Lu hD
   refine An7 (d:=b) (o:=o) (kvs:=cK ms) (fun j zs τ G=>zs=((ms.take j).map fun q=>decide (0<q.2)&&decide (q.2<p)).map V.bl/\G b=some (.frz o (.dK (cK ms)))/\G D=some (.lst zs)/\Kh b H1 G/\∃ o1,τ=[o1,some (.int p)])
    ⟨rfl,by rw [Ae nDb.symm];exact Ac,Ac,?_,none,rfl⟩ (fun j zs τ G _ ⟨_,e,_⟩=>e) ?_ ?_
   . intro c q n1 e2
     rw [Ae (Al e2 hD0),Ae n1]
     exact e2
   . rintro j kk y zs τ G hx ⟨rfl,hbG,hDG,hkG,o1,rfl⟩
     obtain⟨q,hq,rfl,rfl⟩:=L5 hx
     have hlt:j<ms.length:=(List.getElem?_eq_some_iff.mp hq).1
     refine⟨_,rfl,_,_,rfl,rfl,_,rfl,?_⟩
     refine ite2 (fun h5=>?_) (fun h5=>?_)
     . have h6:0<q.2:=by simpa using h5
       refine⟨_,rfl,_,_,rfl,rfl,?_⟩
       refine⟨hDG,C5 (by simp;omega),?_,by rw [Ae nDb.symm];exact hbG,Ac,fun c r n1 e2=>by rw [Ae (fun z=>by rw [z,hD0] at e2;cases e2)];exact hkG c r n1 e2,_,rfl⟩
       rw [List.take_add_one,hq,List.map_append,List.map_append]
       show _++[V.bl (decide (q.2<p))]=_++[V.bl (decide (0<q.2)&&decide (q.2<p))]
       rw [decide_eq_true h6]
       rfl
     . have h6:¬0<q.2:=by simpa using h5
       refine⟨hDG,C5 (by simp;omega),?_,by rw [Ae nDb.symm];exact hbG,Ac,fun c r n1 e2=>by rw [Ae (fun z=>by rw [z,hD0] at e2;cases e2)];exact hkG c r n1 e2,_,rfl⟩
       rw [List.take_add_one,hq,List.map_append,List.map_append]
       show _++[V.bl false]=_++[V.bl (decide (0<q.2)&&decide (q.2<p))]
       rw [decide_eq_false h6]
       rfl
   . rintro zs τ G ⟨rfl,hbG,hDG,hkG,_⟩
     rw [Dg,List.take_length] at hDG
     refine⟨hbG,D,ms.map fun q=>decide (0<q.2)&&decide (q.2<p),rfl,.of (by rw [Ae nDb];exact hDG),?_⟩
     have hs:Ff i p ms=((ms.map fun q=>decide (0<q.2)&&decide (q.2<p)).all id):=by
      rw [Bool.eq_iff_iff,List.all_map]
      unfold Ff
      rw [List.all_eq_true,List.all_eq_true]
      constructor
      . intro h q hq
        have h5:=h q hq
        simp only [Bool.and_eq_true,decide_eq_true_eq] at h5
        show (decide (0<q.2)&&decide (q.2<p))=true
        rw [decide_eq_true (show 0<q.2 by omega),decide_eq_true h5.2.2]
        rfl
      . intro h q hq
        have h5:=h2 q.1 (List.mem_map_of_mem (f:=(·.1)) hq)
        have h6:(decide (0<q.2)&&decide (q.2<p))=true:=h q hq
        simp only [Bool.and_eq_true,decide_eq_true_eq] at h6
        rw [decide_eq_true h5,decide_eq_true (show 1<=q.2 by omega),decide_eq_true h6.2]
        rfl
     rw [←hs]
     refine kq _ fun c q e2=>?_
     by_cases z:c=b
     . subst z
       rw [hb] at e2
       cases e2
       exact Ac
     . rw [Ae z];exact hkG c q z (s1 _ _ e2)
abbrev Jl:Stmt:=top 30
theorem Ag1:FnScope ["shape","chain","told","place","number"] ["shape","chain"] (Ah Jl):=⟨rfl,rfl,rfl,by decide +kernel,rfl,by decide +kernel,by decide +kernel⟩
theorem Pt:(["shape","chain","told","place","number"]:List Str).Nodup:=by decide +kernel
theorem Ah7 {f:Addr}{fd:FuncData} (F:Fun K "border" "border" Jl f fd) (T:Txt K mg Ad) (By:Has P w K mg base "is_chain_of_some_level" ["shape","thing","bound"] 6 (Fj K)) (Dr:Has P w K mg base "add_faces" ["chain","faces","number"] 2 (Fd K)):FnOk P w K mg base CX0 7 f fd ["shape","chain"] (Me K):=by
 refine F.ok Ag1 (fun vs H Q E h=>?_) (fun Bo A outer s H vs Q E hr h=>?_)
 . obtain⟨a,b,xs,ms,rfl,hL,hb,hm,h4,⟨kc,hk4,hch⟩,kq⟩:=h
   rfl
 . obtain⟨a,b,xs,ms,rfl,hL,hb,hm,h4,⟨kc,hk4,hch⟩,kq⟩:=h
   obtain⟨t_LEVELS,c_LEVELS⟩:=T.x_LEVELS
   refine⟨_,(Af (Bh (Df (De (Am By hr (by rfl) (Ab (pv 0) (Ab (pv 1) (Ab (Ue (v:=.int 4) (by rfl) c_LEVELS ⟨_,rfl⟩) Ag)))))) (Ai Li) Aw)
    (Af (Ar (i:=2) Pt (by rfl) (by first | exact Or.inl rfl | exact Or.inr rfl) Fg)
    (Af (Pd (C0 PassesOwn.never rfl (Os (pv 1)) (Ip (K:=K) (n:=2) (by rfl) (Bu (Au (i:=3) Pt (by rfl) (by first | exact Or.inl rfl | exact Or.inr rfl)) (Bu (Au (i:=4) Pt (by rfl) (by first | exact Or.inl rfl | exact Or.inr rfl)) Ii))) (Ai (Ck (Am Dr hr (by rfl) (Ab (pv 2) (Ab (Cc (Bi (K:=K)) (pv 0) (pv 3) (fun _ _=>rfl)) (Ab (pv 4) Ag))))))))
    (Ai (At (pv 2)))))),?_⟩
   refine⟨_,rfl,_,rfl,a,.ref b,xs,4,.dk (cK ms),rfl,hL,j7 hb hm,by decide,fun H1 s1=>?_⟩
   have hany:((List.range 4).any fun (k:Nat)=>Gj xs (k:Int) (.dk (cK ms)))=true:=List.any_eq_true.mpr ⟨kc,List.mem_range.mpr hk4,by rw [Xn];exact hch⟩
   refine⟨_,rfl,?_⟩
   rw [hany]
   refine ifN (by simp) ?_
   have hL1:=Rep.same s1 hL
   have hb1:=s1 _ _ hb
   refine fun D hD=>?_
   have nDb:b≠D:=Al hb1 hD
   have s2:Same H1 (upd H1 D (.dK [])):=Same.new hD
   have hL2:=Rep.same s2 hL1
   have hb2:=s2 _ _ hb1
   generalize hH2:upd H1 D (.dK [])=H2 at s2 hL2 hb2
   have hD2:H2 D=some (.dK []):=by rw [←hH2];exact Ac
   refine .inr ⟨b,cK ms,hb2,fun hnd o=>?_⟩
   refine⟨_,rfl,b,o,cK ms,rfl,Ac,?_⟩
   refine W7 (d:=b) (o:=o) (kvs:=cK ms) (fun i σ G=>∃ o1 o2,σ=[some (.ref a),some (.ref b),some (.ref D),o1,o2]/\G b=some (.frz o (.dK (cK ms)))/\G D=some (.dK (cK (Qw xs ms i)))/\(∀ c q,c≠b->c≠D->H2 c=some q->G c=some q))
    ⟨none,none,rfl,Ac,?_,?_⟩ (fun i σ G _ ⟨_,_,_,e,_⟩=>e) ?_ ?_
   . rw [Ae nDb.symm]
     exact hD2
   . intro c q n1 n2 e
     rw [Ae n1]
     exact e
   . rintro i kk x σ G p hx ⟨o1,o2,rfl,hbG,hDG,hkG⟩ hp
     obtain⟨q,hq,rfl,rfl⟩:=L5 hx
     have npb:b≠p:=Al hbG hp
     have npD:D≠p:=Al hDG hp
     have hlt:i<ms.length:=(List.getElem?_eq_some_iff.mp hq).1
     have hqd:ms.getD i (0,0)=q:=by rw [List.getD_eq_getElem?_getD,hq];rfl
     have hpart:=List.all_eq_true.mp hch q (List.mem_of_getElem? hq)
     have hin:0<=q.1/\q.1<(xs.length:Int):=by
      unfold A00 at hpart
      rw [Bool.and_eq_true] at hpart
      exact Pi hpart.1
     have sp:Same G (upd G p (.tup [.int q.1,.int q.2])):=Same.new hp
     have hLG:LT K G (.ref a) xs:=by
      have e1:Kh b H2 (upd H2 b (.frz o (.dK (cK ms)))):=fun c r n e=>by rw [Ae n];exact e
      have l1:=Rep.x e1 hb2 hL2
      have d1:(upd H2 b (.frz o (.dK (cK ms)))) D=some (.dK []):=by rw [Ae nDb.symm];exact hD2
      have e2:Kh D (upd H2 b (.frz o (.dK (cK ms)))) G:=fun c r n e=>by
       by_cases z:c=b
       . subst z
         rw [Ac] at e
         cases e
         exact hbG
       . rw [Ae z] at e
         exact hkG c r z n e
      exact Rep.x (m:=[]) e2 d1 l1
     obtain⟨us,v,hus,hat,tv⟩:=LT.get (Rep.same sp hLG) hin.1 hin.2
     refine⟨p,_,rfl,.of Ac,rfl,_,_,rfl,_,_,rfl,rfl,?_⟩
     have hfl:(xs.getD q.1.toNat []).length<=4:=by
      rcases Gw (l:=xs) (i:=q.1.toNat) (d:=[]) with z | z
      . exact h4 _ z
      . rw [z];exact Nat.zero_le _
     have hbl:=Pw h4 ms i
     refine⟨_,rfl,_,rfl,_,rfl,a,us,_,v,rfl,rfl,hus,hat,_,rfl,D,v,Qw xs ms i,xs.getD q.1.toNat [],q.2,rfl,sp _ _ hDG,tv,by omega,fun G2 sG2 hDG2=>?_⟩
     refine⟨_,_,rfl,sG2 _ _ nDb (sp _ _ hbG),?_,fun c r n1 n2 e=>?_⟩
     . rw [hDG2]
       show _=some (HO.dK (cK (addF (Qw xs ms i) (xs.getD (ms.getD i (0,0)).1.toNat []) (ms.getD i (0,0)).2)))
       rw [hqd]
     . exact sG2 c r n2 (sp _ _ (hkG c r n1 n2 e))
   . rintro σ G ⟨o1,o2,rfl,hbG,hDG,hkG⟩
     rw [Dg] at hDG
     refine⟨hbG,_,rfl,kq D _ (s1.free hD) (fun c q e=>?_) (by rw [Ae nDb.symm];exact hDG)⟩
     by_cases z:c=b
     . subst z
       rw [hb] at e
       cases e
       exact Ac
     . rw [Ae z]
       exact hkG c q z (Al (s1 _ _ e) hD) (s2 _ _ (s1 _ _ e))
abbrev B6:Stmt:=top 38
theorem O8:FnScope ["shape","prime","papers","edges","ended"] ["shape","prime","papers"] (Ah B6):=⟨rfl,rfl,rfl,by decide +kernel,rfl,by decide +kernel,by decide +kernel⟩
theorem Im:(["shape","prime","papers","edges","ended"]:List Str).Nodup:=by decide +kernel
theorem Pj {f:Addr}{fd:FuncData} (F:Fun K "growth_holds" "growth_holds" B6 f fd) (T:Txt K mg Ad) (Cn:Has P w K mg base "counted" ["chain","prime"] 1 (F9 K)) (U8:Has P w K mg base "border" ["shape","chain"] 7 (Me K)) (M7:Has P w K mg base "is_paper" ["shape","prime","place","thing"] 6 (O0 K)):FnOk P w K mg base CX0 8 f fd ["shape","prime","papers"] (O1 K):=by
 refine F.ok O8 (fun vs H Q E h=>?_) (fun Bo A outer s H vs Q E hr h=>?_)
 . obtain⟨a,xs,p,x,o,rfl,hL,h4,h40,hp,hp98,hPs,kq⟩:=h
   rfl
 . obtain⟨a,xs,p,x,o,rfl,hL,h4,h40,hp,hp98,hPs,kq⟩:=h
   refine⟨_,(Af (Bh (PW.pt (Lh (Df (De (An S1 (by rfl) T.n_isinstance A3 (Ab (pv 2) (Ab (Fp (v:=.ty "list") rfl T.n_list Jv rfl) Ag))))) (Ih (Ao Lk (An (Ap (K:=K)) (by rfl) T.n_len PySem.boot_len (Ab (pv 2) Ag)) (An (Ap (K:=K)) (by rfl) T.n_len PySem.boot_len (Ab (pv 0) Ag)) (Ax _))))) (Ai (At E1)) Aw)
    (Af (Bh (Df (De (An (Gg (K:=K) (by rfl)) (by rfl) T.n_all Ji (Ab (Ct (N':=["place","paper","shape","prime"]) (cap:=[none,none,some 0,some 1]) (by rfl) (by kernel_rfl) (Az5 (K:=K) (by rfl) T.n_enumerate (Ab (pv 2) Ag)) (fun _ _ _ _=>(Ip (K:=K) (n:=2) (by rfl) (Bu (Au (i:=0) Aw3 (by rfl) (by first | exact Or.inl rfl | exact Or.inr rfl)) (Bu (Au (i:=1) Aw3 (by rfl) (by first | exact Or.inl rfl | exact Or.inr rfl)) Ii)))) (fun _ _ _ _=>Cs) (fun _ _ _ _=>(Am M7 hr (by rfl) (Ab (pv 2) (Ab (pv 3) (Ab (pv 0) (Ab (pv 1) Ag))))))) Ag)))) (Ai (At E1)) Aw)
    (Af (Yy (N':=["paper","shape","prime"]) (cap:=[none,some 0,some 1]) (i:=3) Im (by rfl) (by first | exact Or.inl rfl | exact Or.inr rfl) (by rfl) (by kernel_rfl) (Ej (K:=K) (pv 2)) (fun _ _ _ _=>(Au (i:=0) Be0 (by rfl) (by first | exact Or.inl rfl | exact Or.inr rfl))) (fun _ _ _ _=>Cs) (fun _ _ _ _=>(Am Cn hr (by rfl) (Ab (Am U8 hr (by rfl) (Ab (pv 1) (Ab (pv 0) Ag))) (Ab (pv 2) Ag)))))
    (Af (Yy (N':=["edge"]) (cap:=[none]) (i:=4) Im (by rfl) (by first | exact Or.inl rfl | exact Or.inr rfl) (by rfl) (by kernel_rfl) (Ej (K:=K) (pv 3)) (fun _ _ _ _=>(Au (i:=0) Be1 (by rfl) (by first | exact Or.inl rfl | exact Or.inr rfl))) (fun _ _ _ _=>(Yx (Ao z8 (An Jh (by rfl) T.n_len PySem.boot_len (Ab (pv 0) Ag)) Aj (Ax _)))) (fun _ _ _ _=>(An (Jg (by rfl)) (by rfl) T.n_max Da (Ab (pv 0) Ag))))
    (Ai (At (Ij Fr (An Ao8 (by rfl) T.n_len PySem.boot_len (Ab (B4 (Ao7 (K:=K) (by rfl)) (by rfl) T.n_set Ap3 (Ab (pv 4) Ag)) Ag)) (An (Ap (K:=K)) (by rfl) T.n_len PySem.boot_len (Ab (pv 4) Ag)) (Ax _)))))))),?_⟩
   refine Aq (t:=tIfS _ _ _) (fun σ' H'=>σ'=[some (.ref a),some (.int p),some x,none,none]/\H=H'/\∃ (l:Addr) (us:List V) (ts:List PT),o=some ts/\x=.ref l/\H l=some (.lst us)/\PapL H us ts/\ts.length=xs.length) ?_ fun key=>?_
   rotate_left
   . cases o with
     | none =>
       have q:=kq _ (Same.refl H)
       rcases hPs with ⟨l,us,rfl,hl⟩ | rfl
       . refine⟨_,rfl,_,rfl,.inr (.inl ⟨l,us,rfl,hl,_,rfl,?_⟩)⟩
         refine ifP rfl ?_
         exact q
       . refine⟨_,rfl,_,rfl,.inr (.inr ⟨rfl,_,rfl,?_⟩)⟩
         refine ifP rfl ?_
         exact q
     | some ts =>
       obtain⟨l,us,rfl,hl,hP,h100⟩:=hPs
       obtain⟨ws,hws,hwl⟩:=LT.len hL
       refine⟨_,rfl,_,rfl,.inl ⟨l,us,rfl,hl,_,rfl,?_⟩⟩
       refine ifN (by decide) ?_
       refine⟨_,rfl,l,us,rfl,.inl (.of hl),_,rfl,a,ws,rfl,.inl hws,rfl,_,rfl,?_⟩
       rw [hwl,hP.1]
       refine ite2 (fun h1=>?_) (fun h1=>?_)
       . have h2:¬ts.length=xs.length:=by
          intro z
          rw [z] at h1
          simp at h1
         have q:=kq _ (Same.refl H)
         have e:E4 xs p (some ts)=false:=by
          show (decide (ts.length=xs.length)&&_)=false
          rw [decide_eq_false h2]
          rfl
         rw [e] at q
         exact q
       . have h2:ts.length=xs.length:=by
          have:(ts.length:Int)=(xs.length:Int):=by simpa using h1
          omega
         exact key _ _ ⟨rfl,rfl,l,us,ts,rfl,rfl,hl,hP,h2⟩
   rintro _ _ ⟨rfl,rfl,l,us,ts,rfl,rfl,hl,hP,hlen⟩
   have hul:us.length=ts.length:=hP.1
   have holds:∀ b:Bool,E4 xs p (some ts)=b↔(allP xs p ts ts.length&&decide (B5 xs p ts).Nodup)=b:=fun b=>by
    show (decide (ts.length=xs.length)&&(allP xs p ts ts.length&&decide (B5 xs p ts).Nodup))=b↔_
    rw [decide_eq_true hlen]
    exact Iff.rfl
   refine Aq (t:=tIfS _ _ _) (fun σ' H'=>σ'=[some (.ref a),some (.int p),some (.ref l),none,none]/\Same H H'/\allP xs p ts ts.length=true) ?_ fun key=>?_
   rotate_left
   . refine⟨_,rfl,l,rfl,⟨_,.of hl⟩,fun D hD=>?_⟩
     refine Ad7 (K:=K) (a:=l) (xs:=us) (fun i ys τ G=>Same H G/\G D=some (.lst ys)/\ys=((List.range i).map fun j=>D1 xs p j (ts.getD j .bad)).map V.bl/\∃ o1 o2,τ=[o1,o2,some (.ref a),some (.int p)])
      ⟨Same.new hD,Ac,rfl,none,none,rfl⟩ (fun i ys τ G _ ⟨s1,_⟩=>.of (s1 _ _ hl)) ?_ ?_
     . rintro i v ys τ G pr hv ⟨s1,hD1,rfl,o1,o2,rfl⟩ hpr
       have hi:i<ts.length:=by rw [←hul];exact (List.getElem?_eq_some_iff.mp hv).1
       obtain⟨u,hu,hPu⟩:=hP.at hi
       rw [hv] at hu
       cases hu
       have sp:Same G (upd G pr (.tup [.int i,v])):=Same.new hpr
       have s2:=s1.trans sp
       refine⟨pr,_,rfl,.of Ac,rfl,_,_,rfl,_,_,rfl,rfl,?_⟩
       refine⟨_,rfl,_,rfl,_,rfl,_,rfl,a,xs,p,i,v,ts.getD i .bad,rfl,Rep.same s2 hL,by omega,hPu.same s2,fun G2 s3=>?_⟩
       have s4:=sp.trans s3
       refine⟨s4 _ _ hD1,C5 (by simp;omega),(s1.trans s4).turn hD,Ac,?_,_,_,rfl⟩
       rw [List.range_succ,List.map_append,List.map_append]
       rfl
     . rintro ys τ G ⟨s1,hD1,rfl,_⟩
       rw [hul] at hD1
       refine⟨D,(List.range ts.length).map fun j=>D1 xs p j (ts.getD j .bad),rfl,.of hD1,_,rfl,?_⟩
       have e:((List.range ts.length).map fun j=>D1 xs p j (ts.getD j .bad)).all id=allP xs p ts ts.length:=by
        rw [List.all_map]
        rfl
       rw [e]
       cases ha:allP xs p ts ts.length with
       | false =>
         refine ifP rfl ?_
         have q:=kq _ s1
         rw [(holds false).mpr (by rw [ha];rfl)] at q
         exact q
       | true =>
         refine ifN (by decide) ?_
         exact key _ _ ⟨rfl,s1,ha⟩
   rintro _ H1 ⟨rfl,s1,hall⟩
   have hl1:=s1 _ _ hl
   refine Aq (fun σ' H'=>∃ Ed es,σ'=[some (.ref a),some (.int p),some (.ref l),some (.ref Ed),none]/\Same H H'/\H' Ed=some (.lst es)/\DL H' es (ts.map (edM xs p))) ?_ fun key=>?_
   rotate_left
   . refine⟨_,rfl,l,rfl,⟨_,.of hl1⟩,fun D hD=>?_⟩
     refine Nq (K:=K) (a:=l) (xs:=us) (fun i ys τ G=>Same H1 G/\G D=some (.lst ys)/\DN G D ys ((ts.take i).map (edM xs p))/\∃ o1,τ=[o1,some (.ref a),some (.int p)])
      ⟨Same.new hD,Ac,DN.nil _ _,none,rfl⟩ (fun i ys τ G _ ⟨s2,_⟩=>.of (s2 _ _ hl1)) ?_ ?_
     . rintro i v ys τ G hv ⟨s2,hD2,hN,o1,rfl⟩
       have hi:i<ts.length:=by rw [←hul];exact (List.getElem?_eq_some_iff.mp hv).1
       obtain⟨u,hu,hPu⟩:=hP.at hi
       rw [hv] at hu
       cases hu
       obtain⟨ms,hms,hc,hg,hsm⟩:=m5 (A50 hi hall)
       rw [hms] at hPu
       obtain⟨b,rfl,hb,hm⟩:=hPu
       have sG:=s1.trans s2
       have hk4:(xs.getD i []).length<=4:=by
        rcases Gw (l:=xs) (i:=i) (d:=[]) with z | z
        . exact h4 _ z
        . rw [z];exact Nat.zero_le _
       have hlv:levA xs i=(((xs.getD i []).length-1:Nat):Int):=Fv _
       refine⟨_,rfl,_,rfl,a,b,xs,ms,rfl,Rep.same sG hL,sG _ _ hb,by omega,h4,⟨(xs.getD i []).length-1,by omega,by rw [←hlv];exact hc⟩,fun D2 G2 n2 s3 e3=>?_⟩
       have lb:=Pw h4 ms ms.length
       refine⟨_,rfl,D2,Ad9 xs ms,p,rfl,e3,by unfold Ad9;omega,Ux xs ms _,hp,fun D3 G3 n3 s4 e4=>?_⟩
       have s34:=s3.trans s4
       have hmd:(ts.take (i+1)).map (edM xs p)=(ts.take i).map (edM xs p)++[modI p (Ad9 xs ms)]:=by
        rw [List.take_succ,List.getElem?_eq_getElem hi,List.map_append]
        have:ts[i]=.ch ms:=by
         rw [List.getD_eq_getElem?_getD,List.getElem?_eq_getElem hi] at hms
         exact hms
        rw [this]
        rfl
       refine⟨s34 _ _ hD2,C5 (by rw [hN.1,List.length_map,List.length_take];omega),(s2.trans s34).turn hD,Ac,?_,_,rfl⟩
       rw [hmd]
       refine (hN.same s34).snoc e4 ?_
       intro z
       rw [z] at n3
       rw [s3 _ _ hD2] at n3
       cases n3
     . rintro ys τ G ⟨s2,hD2,hN,_⟩
       rw [hul,List.take_length] at hN
       exact key _ _ ⟨D,ys,rfl,s1.trans s2,hD2,hN.dl⟩
   rintro _ H2 ⟨Ed,es,rfl,s2,hEd,hE⟩
   have hel:es.length=ts.length:=by rw [hE.1,List.length_map]
   refine Aq (fun σ' H'=>∃ En,σ'=[some (.ref a),some (.int p),some (.ref l),some (.ref Ed),some (.ref En)]/\Same H H'/\H' En=some (.lst ((B5 xs p ts).map V.int))) ?_ fun key=>?_
   rotate_left
   . refine⟨_,rfl,Ed,rfl,⟨_,.of hEd⟩,fun D hD=>?_⟩
     refine Xk (K:=K) (a:=Ed) (xs:=es) (fun i ys τ G=>Same H2 G/\G D=some (.lst ys)/\ys=(B5 xs p (ts.take i)).map V.int/\∃ o1,τ=[o1])
      ⟨Same.new hD,Ac,rfl,none,rfl⟩ (fun i ys τ G _ ⟨s3,_⟩=>.of (s3 _ _ hEd)) ?_ ?_
     . rintro i v ys τ G hv ⟨s3,hD3,rfl,o1,rfl⟩
       have hi:i<ts.length:=by rw [←hel];exact (List.getElem?_eq_some_iff.mp hv).1
       obtain⟨b,r,rfl,hr,hb⟩:=hE.getV hv
       have hbG:=s3 _ _ hb
       have er:r=edM xs p (ts.getD i .bad):=by
        rw [List.getElem?_map,List.getElem?_eq_getElem hi] at hr
        rw [List.getD_eq_getElem?_getD,List.getElem?_eq_getElem hi]
        exact (Option.some.inj hr).symm
       have hsn:=Xb xs p ts hi
       rw [A35,←er] at hsn
       have ln:(B5 xs p (ts.take i)).length<=100:=by
        have:=Vb xs p (ts.take i)
        rw [List.length_take] at this
        omega
       refine⟨_,rfl,b,_,rfl,hbG,_,_,rfl,rfl,_,rfl,?_⟩
       rw [Dg]
       refine ite2 (fun h1=>?_) (fun h1=>?_)
       . have hne:Ay r≠[]:=fun z=>by
          have:r.length=0:=by
           have:=congrArg List.length z
           unfold Ay at this
           simpa using this
          rw [this] at h1
          simp at h1
         have hk:(cK r).map (·.1)=(Ay r).map (fun k=>(.inl k:Key)):=by
          unfold cK Ay
          rw [List.map_map,List.map_map]
          rfl
         rw [if_neg hne] at hsn
         refine⟨_,rfl,b,Ay r,cK r,rfl,hbG,hk,hne,fun m q1 q2=>?_⟩
         refine⟨hD3,C5 (by rw [List.length_map];omega),s3.turn hD,Ac,?_,_,rfl⟩
         rw [hsn,List.map_append,At2 q1 q2]
         rfl
       . have hn:Ay r=[]:=by
          have:r.length=0:=by
           have h2:¬(0:Int)<(r.length:Int):=by simpa using h1
           omega
          unfold Ay
          rw [List.length_eq_zero_iff.mp this]
          rfl
         rw [if_pos hn] at hsn
         refine⟨s3,hD3,?_,_,rfl⟩
         rw [hsn,List.append_nil]
     . rintro ys τ G ⟨s3,hD3,rfl,_⟩
       rw [hel,List.take_length] at hD3
       exact key _ _ ⟨D,rfl,s2.trans s3,hD3⟩
   rintro _ H3 ⟨En,rfl,s3,hEn⟩
   have l2:=Vb xs p ts
   refine⟨_,rfl,En,B5 xs p ts,rfl,.of hEn,by omega,fun D hD=>?_⟩
   have s4:Same H3 (upd H3 D (.set (setB (B5 xs p ts)) (Z1 (B5 xs p ts)))):=Same.new hD
   have l3:=At8 (B5 xs p ts)
   refine⟨D,_,_,rfl,Ac,by omega,_,rfl,En,_,rfl,.inl (.of (s4 _ _ hEn)),rfl,?_⟩
   have q:=kq _ (s3.trans s4)
   have e:E4 xs p (some ts)=decide (V.int (Z1 (B5 xs p ts):Nat)=V.int (((B5 xs p ts).map V.int).length:Nat)):=by
    refine (holds _).mpr ?_
    rw [hall,List.length_map]
    show decide (B5 xs p ts).Nodup=_
    rw [Bool.eq_iff_iff,decide_eq_true_eq,decide_eq_true_eq,←Ak0]
    constructor
    . intro z
      rw [z]
    . intro z
      have z':((Z1 (B5 xs p ts):Nat):Int)=((B5 xs p ts).length:Nat):=by
       injection z
      omega
   rw [e] at q
   exact q
abbrev Ri:Stmt:=top 58
theorem A67:FnScope ["_law_script","_law_shape","_law_primes","_law_prime","_law_growth","_law_piece","_law_papers","_law_due","_law_copy","_law_turn","_law_found"] ["_law_script"] (Ah Ri):=⟨rfl,rfl,rfl,by decide +kernel,rfl,by decide +kernel,by decide +kernel⟩
theorem Kj:(["_law_script","_law_shape","_law_primes","_law_prime","_law_growth","_law_piece","_law_papers","_law_due","_law_copy","_law_turn","_law_found"]:List Str).Nodup:=by decide +kernel
theorem A85 {f:Addr}{fd:FuncData} (F:Fun K "law" "law" Ri f fd) (T:Txt K mg Ad) (Is:Has P w K mg base "_law_shape_by" ["_law_kind","_law_cells","_law_most"] 3 (Kt K)) (hcd_Growth:Bc5 P w K mg base Ad ["self","prime"] [.int 2] 4 (Lf K Ad)) (hc_Growth:HasC P w K mg base Ad ["self","prime"] 4 (Lf K Ad)) (M8:Has P w K mg base "_law_spoilt" ["_law_script","_law_papers","_law_prime"] 2 (Md K)) (Js:Has P w K mg base "_law_due_of" ["_law_shape","_law_prime","_law_papers"] 4 (Ye K)) (Br:Has P w K mg base "_law_cell_at" ["_law_script","_law_k"] 1 (Fe K)) (Fx:HasM P w K mg base Ad "grow" ["self","thing"] 5 (O4 K Ad)) (Fy:Has P w K mg base "growth_holds" ["shape","prime","papers"] 8 (O1 K)) (E5:HasM P w K mg base Ad "paper" ["self","place"] 3 (O3 K Ad)):FnOk P w K mg base CX0 9 f fd ["_law_script"] (j9 K):=by
 refine F.ok A67 (fun vs H Q E h=>?_) (fun Bo A outer s H vs Q E hr h=>?_)
 . obtain⟨a,ns,rfl,hS,hl,k⟩:=h
   rfl
 . obtain⟨a,ns,rfl,hS,hl,k⟩:=h
   have hu8:(A.deeper (PyProof.Rows.envOfC "law" (Ah Ri) s.heap.objs.size f Bo)).units+8<cLine:=by have:=hr.units;omega
   refine⟨_,(PSsw.h (Ag6 (i:=2) (Ar (i:=1) Kj (by rfl) (by first | exact Or.inl rfl | exact Or.inr rfl) (Am Is hr (by rfl) (Ab (Am Br hr (by rfl) (Ab (pv 0) (Ab Aj Ag))) (Ab (C6 (Ln (K:=K)) (pv 0) (D8 Aj) (D8 Aj)) (Ab Aj Ag))))) Kj (by rfl) (by first | exact Or.inl rfl | exact Or.inr rfl) (As4 (ns:=[2,3,5,7,11,13,17,19,23,29,31,37,41,43,47,53,59,61,67,71,73,79,83,89,97]) (by kernel_rfl))
    (Af (Ar (i:=3) Kj (by rfl) (by first | exact Or.inl rfl | exact Or.inr rfl) (Cc (Ce (K:=K)) (pv 2) (A0 Bs (A0 Fq (Am Br hr (by rfl) (Ab (pv 0) (Ab Aj Ag))) Aj) Aj) (fun _ _=>rfl)))
    (Af (Ar (i:=4) Kj (by rfl) (by first | exact Or.inl rfl | exact Or.inr rfl) (Ar8 hc_Growth hr (by rfl) T.m_Growth (Ab (pv 3) Ag)))
    (Af (C0 PassesOwn.never rfl (Ej (K:=K) (pv 1)) (Au (i:=5) Kj (by rfl) (by first | exact Or.inl rfl | exact Or.inr rfl)) (Ai (Ck (Ud (pv 4) T.cl_Growth Fx hr (Ab (pv 5) Ag)))))
    (Af (Ar (i:=6) Kj (by rfl) (by first | exact Or.inl rfl | exact Or.inr rfl) (Am M8 hr (by rfl) (Ab (pv 0) (Ab (Ct (N':=["_law_place","_law_growth"]) (cap:=[none,some 4]) (by rfl) (by kernel_rfl) (Cl (by rfl) T.n_range (Ab (An (Ap (K:=K)) (by rfl) T.n_len PySem.boot_len (Ab (pv 1) Ag)) Ag)) (fun _ _ _ _=>(Au (i:=0) A93 (by rfl) (by first | exact Or.inl rfl | exact Or.inr rfl))) (fun _ _ _ _=>Cs) (fun _ _ _ _=>(Ud (pv 1) T.cl_Growth E5 hr (Ab (pv 0) Ag)))) (Ab (pv 3) Ag)))))
    (Af (Ar (i:=7) Kj (by rfl) (by first | exact Or.inl rfl | exact Or.inr rfl) (Am Js hr (by rfl) (Ab (pv 1) (Ab (pv 3) (Ab (pv 6) Ag)))))
    (Af (Ar (i:=8) Kj (by rfl) (by first | exact Or.inl rfl | exact Or.inr rfl) (B4 (Lq (K:=K)) (by rfl) T.n_list Jv (Ab (pv 1) Ag)))
    (Af (C0 PassesOwn.never rfl (Cl (by rfl) T.n_range (Ab Aj Ag)) (Au (i:=9) Kj (by rfl) (by first | exact Or.inl rfl | exact Or.inr rfl)) (Af (Ar (i:=10) Kj (by rfl) (by first | exact Or.inl rfl | exact Or.inr rfl) (Am Fy hr (by rfl) (Ab (pv 8) (Ab (pv 3) (Ab (pv 6) Ag)))))
    (Ai (Bh (PW.pt (Lh (Df (De (An (D4 (K:=K)) (by rfl) T.n_isinstance A3 (Ab (pv 10) (Ab (Fp (v:=.ty "bool") rfl T.n_bool Nu rfl) Ag))))) (Ih (Ao Lk (pv 10) (pv 7) (Ax _))))) (Ai (At E1)) Aw))))
    (Ai (At (N3 (Ij (A19 (K:=K) hu8) (pv 8) (pv 1) (Ax _)) (N2 (Ij Fr (Am Js hr (by rfl) (Ab (pv 1) (Ab (pv 3) (Ab (pv 6) Ag)))) (pv 7) (Ax _))))))))))))))),?_⟩
   refine Aq (fun σ' H'=>∃ (Pc:Addr) (us:List V) (xs:List (List Int)),σ'=[some (.ref a),some (.ref Pc),none,none,none,none,none,none,none,none,none]/\Same H H'/\H' Pc=some (.lst us)/\Reps K H' us (xs.map tI)/\Lc xs/\xs.length<=20) ?_ fun key=>?_
   rotate_left
   . refine⟨_,rfl,a,ns,0,rfl,hS,by decide,hl,_,rfl,_,rfl,_,rfl,a,_,rfl,hS,fun C hC=>?_⟩
     rw [Au8]
     have s2:=Same.new (o:=.lst ((cutS ns (some 5) (some 35)).map V.int)) hC
     have hC1:(upd H C (.lst ((cutS ns (some 5) (some 35)).map V.int))) C=some (.lst ((cutS ns (some 5) (some 35)).map V.int)):=Ac
     have cl1:=Au9 ns (some 5) (some 35)
     generalize cutS ns (some 5) (some 35)=ms at s2 hC1 cl1 ⊢
     generalize upd H C (.lst (ms.map V.int))=H2 at s2 hC1 ⊢
     refine⟨C,ms,_,20,rfl,.of hC1,by omega,by decide,by decide,fun Pc us H' xs hp s' hp' r' hsh hxl=>?_⟩
     exact key _ _ ⟨Pc,us,xs,rfl,s2.trans s',hp',r',hsh,by omega⟩
   rintro _ H1 ⟨Pc,us,xs,rfl,s1,hPc1,rPc1,hsh,hx20⟩
   have hS1:SqL K H1 a (ns.map V.int):=s1.seq hS
   refine Aq (fun σ' H'=>∃ Tp:Addr,σ'=[some (.ref a),some (.ref Pc),some (.ref Tp),none,none,none,none,none,none,none,none]/\Same H1 H'/\H' Tp=some (.tup (([2,3,5,7,11,13,17,19,23,29,31,37,41,43,47,53,59,61,67,71,73,79,83,89,97]:List Int).map V.int))) ?_ fun key=>?_
   rotate_left
   . exact ⟨A7 (by simp),fun T hT=>key _ _ ⟨T,rfl,Same.new hT,Ac⟩⟩
   rintro _ H2 ⟨Tp,rfl,s2,hTp⟩
   have hPc:=s2 _ _ hPc1
   have rPc:=Reps.same s2 rPc1
   have hS2:SqL K H2 a (ns.map V.int):=s2.seq hS1
   refine Aq (fun σ' H'=>∃ p:Int,σ'=[some (.ref a),some (.ref Pc),some (.ref Tp),some (.int p),none,none,none,none,none,none,none]/\H2=H'/\E9 p/\p<98) ?_ fun key=>?_
   rotate_left
   . have q0:=Int.emod_nonneg (N6 ns 0 / 342) (show (25:Int)≠0 by decide)
     have q1:=Int.emod_lt_of_pos (N6 ns 0 / 342) (show (0:Int)<25 by decide)
     obtain⟨p,hp1,hp2⟩:∃ p:Int,atI (([2,3,5,7,11,13,17,19,23,29,31,37,41,43,47,53,59,61,67,71,73,79,83,89,97]:List Int).map V.int) (N6 ns 0 / 342%25)=some (.int p)/\p∈([2,3,5,7,11,13,17,19,23,29,31,37,41,43,47,53,59,61,67,71,73,79,83,89,97]:List Int):=by
      obtain⟨j,hj⟩:=Int.eq_ofNat_of_zero_le q0
      rw [hj] at q1 ⊢
      have hj25:j<([2,3,5,7,11,13,17,19,23,29,31,37,41,43,47,53,59,61,67,71,73,79,83,89,97]:List Int).length:=by show j<25;omega
      refine⟨([2,3,5,7,11,13,17,19,23,29,31,37,41,43,47,53,59,61,67,71,73,79,83,89,97]:List Int)[j],Cg ?_,List.getElem_mem hj25⟩
      rw [List.getElem?_map,List.getElem?_eq_getElem hj25]
      rfl
     obtain⟨hpr,h98⟩:=Ar3 hp2
     exact ⟨_,rfl,_,rfl,a,ns,0,rfl,hS2,by decide,hl,_,_,rfl,rfl,⟨by decide,by decide⟩,_,_,rfl,rfl,(by show (0:Int)<25;decide),Tp,_,_,_,rfl,rfl,.of hTp,hp1,key _ _ ⟨p,rfl,rfl,hpr,h98⟩⟩
   rintro _ _ ⟨p,rfl,rfl,hpr,h98⟩
   have hp0:0<p:=by have:=hpr.two;omega
   refine Aq (fun σ' H'=>∃ (g pc sh ed en:Addr),σ'=[some (.ref a),some (.ref Pc),some (.ref Tp),some (.int p),some (.ref g),none,none,none,none,none,none]/\Same H2 H'/\D7 K Ad H' g pc sh ed en p [] [] [] []/\∀ c,W4 pc sh ed en c->H2 c=none) ?_ fun key=>?_
   rotate_left
   . refine⟨_,rfl,?_⟩
     intro g dx ng ndx nedx
     have sN:Same H2 (upd (upd H2 dx (.own g)) g (.ins Ad dx [])):=(Same.new ndx).turn ng
     have eg:upd (upd H2 dx (.own g)) g (.ins Ad dx []) g=some (.ins Ad dx []):=Ac
     generalize upd (upd H2 dx (.own g)) g (.ins Ad dx [])=H3 at sN eg ⊢
     refine⟨g,dx,p,rfl,eg,hpr,h98,fun pc sh ed en H4 npc nsh ned nen sx x=>⟨rfl,?_⟩⟩
     refine key _ _ ⟨g,pc,sh,ed,en,rfl,fun c o e=>sx c o (Al e ng) (sN _ _ e),x,?_⟩
     rintro c (rfl | rfl | rfl | rfl)
     . exact sN.free npc
     . exact sN.free nsh
     . exact sN.free ned
     . exact sN.free nen
   rintro _ H3 ⟨g,pc,sh,ed,en,rfl,s3,x3,new3⟩
   have hPc3:=s3 _ _ hPc
   have r3:=Reps.same s3 rPc
   have usl:us.length=xs.length:=by have:=r3.length;simpa using this
   have nPc:¬W4 pc sh ed en Pc:=fun w=>by rw [new3 Pc w] at hPc;cases hPc
   refine Aq (fun σ' G=>∃ (o5:Option V) (es ss:List Ms) (bs:Ms),σ'=[some (.ref a),some (.ref Pc),some (.ref Tp),some (.int p),some (.ref g),o5,none,none,none,none,none]/\FrG pc sh ed en H3 G/\D7 K Ad G g pc sh ed en p xs es ss bs/\Hw p xs es ss) ?_ fun key=>?_
   rotate_left
   . refine⟨_,rfl,Pc,rfl,⟨_,.of hPc3⟩,?_⟩
     refine for_list (K:=K) (a:=Pc) (xs:=us) (fun i σ G=>∃ (o5:Option V) (es ss:List Ms) (bs:Ms),σ=[some (.ref a),some (.ref Pc),some (.ref Tp),some (.int p),some (.ref g),o5,none,none,none,none,none]/\FrG pc sh ed en H3 G/\D7 K Ad G g pc sh ed en p (xs.take i) es ss bs/\Hw p (xs.take i) es ss)
      ⟨none,[],[],[],rfl,FrG.of (Same.refl H3),x3,Hw.nil⟩ (fun i σ G _ ⟨_,_,_,_,_,fr,_⟩=>.of (fr _ _ nPc hPc3)) ?_ ?_
     . rintro i v σ G hv ⟨o5,es,ss,bs,rfl,fr,x,shx⟩
       have hi:i<xs.length:=by rw [←usl];exact (List.getElem?_eq_some_iff.mp hv).1
       have hxi:xs[i]?=some xs[i]:=List.getElem?_eq_getElem hi
       obtain⟨dv,hdv,rv⟩:=r3.getV hv
       have edv:dv=tI xs[i]:=by
        rw [List.getElem?_map,hxi] at hdv
        exact (Option.some.inj hdv).symm
       subst edv
       have tv:TI K G v xs[i]:=Rep.t (fr.t x3) (Ak9 _) rv
       have hfit:Ka (xs.take i) (tI xs[i])=true:=A32 (hsh i _ hxi)
       have etk:xs.take (i+1)=xs.take i++[xs[i]]:=by rw [List.take_succ,hxi];rfl
       obtain⟨dx,fs,hg,l1,l2,l3,l4,l5,lm⟩:=x.ob
       refine⟨_,rfl,g,dx,fs,rfl,hg,lm.1,_,rfl,g,pc,sh,ed,en,v,p,xs.take i,xs[i],es,ss,bs,rfl,x,tv,hfit,by rw [List.length_take];omega,shx,fun r me ms bs' G1 fr1 x1 sh1 an=>?_⟩
       refine⟨_,es++[me],ss++[ms],bs',rfl,fun c o' n e=>fr1 c o' n (fr c o' n e),?_,?_⟩
       . rw [etk];exact x1
       . rw [etk];exact sh1
     . rintro σ G ⟨o5,es,ss,bs,rfl,fr,x,shx⟩
       rw [usl,List.take_length] at x shx
       exact key _ _ ⟨o5,es,ss,bs,rfl,fr,x,shx⟩
   rintro _ H4 ⟨o5,es,ss,bs,rfl,fr4,x4,sh4⟩
   have hPc4:H4 Pc=some (.lst us):=fr4 _ _ nPc hPc3
   have r4:Reps K H4 us (xs.map tI):=Reps.t (fr4.t x3) (Lr _) r3
   have hS2:SqL K H3 a (ns.map V.int):=s3.seq (s2.seq hS1)
   have hS4:SqL K H4 a (ns.map V.int):=Ay0 fr4 (fun c w=>new3 c w) s3 (s2.seq hS1)
   have h4:∀ x∈xs,x.length<=4:=fun x hx=>by
    obtain⟨i,hi⟩:=List.mem_iff_getElem?.mp hx
    have:=(hsh i x hi).cnt
    omega
   refine Aq (fun σ' G=>∃ (v:V) (o:Option (List PT)),σ'=[some (.ref a),some (.ref Pc),some (.ref Tp),some (.int p),some (.ref g),o5,some v,none,none,none,none]/\Same H4 G/\Fi G v o) ?_ fun key=>?_
   rotate_left
   . refine⟨_,rfl,_,rfl,Pc,us,rfl,.inl (.of hPc4),_,rfl,by omega,by omega,fun D hD=>?_⟩
     refine Hh (fun i ys τ G=>Same H4 G/\G D=some (.lst ys)/\DN G D ys (ss.take i)/\∃ o,τ=[o,some (.ref g)])
      ⟨Same.new hD,Ac,DN.nil _ _,none,rfl⟩ ?_ ?_
     . rintro i ys τ G hi ⟨s5,hD5,hN,o,rfl⟩
       rw [Int.toNat_natCast,usl] at hi
       rw [show (0:Int)+(i:Int)=(i:Int) by omega]
       have x5:=x4.same s5
       obtain⟨dx,fs,hg,l1,l2,l3,l4,l5,lm⟩:=x5.ob
       have his:i<ss.length:=by rw [x4.gw.ls];exact hi
       refine⟨_,rfl,g,dx,fs,rfl,hg,lm.2.2.2.2.1,_,rfl,g,pc,sh,ed,en,p,xs,es,ss,bs,ss[i],i,rfl,x5,List.getElem?_eq_getElem his,fun D2 G2 n2 s6 e6=>?_⟩
       refine⟨s6 _ _ hD5,C5 (by rw [hN.1,List.length_take];omega),(s5.trans s6).turn hD,Ac,?_,_,rfl⟩
       rw [List.take_succ,List.getElem?_eq_getElem his]
       refine (hN.same s6).snoc e6 ?_
       intro z
       rw [z,hD5] at n2
       cases n2
     . rintro ys τ G ⟨s5,hD5,hN,_⟩
       rw [Int.toNat_natCast,usl,←x4.gw.ls,List.take_length] at hN
       have hlens:∀ m∈ss,m.length<=50:=fun m hm=>by
        obtain⟨i,hi⟩:=List.mem_iff_getElem?.mp hm
        obtain⟨o1,o2⟩:=x4.gw.sok i m hi
        have h1:=Ak1 o1.nd o2
        have h2:=(List.getElem?_eq_some_iff.mp hi).1
        have h3:=x4.gw.ls
        omega
       refine⟨_,rfl,a,D,ns,ys,ss,p,rfl,s5.seq hS4,hl,hD5,hN.dl.pap hlens,by have:=x4.gw.ls;omega,hlens,fun v o H' s6 hv=>?_⟩
       exact key _ _ ⟨v,o,rfl,s5.trans s6,hv⟩
   rintro _ H5 ⟨v,o,rfl,s5,hv5⟩
   have hPc5:=s5 _ _ hPc4
   have LP5:LT K H5 (.ref Pc) xs:=⟨Pc,us,rfl,.of hPc5,Reps.same s5 r4⟩
   refine Aq (fun σ' G=>σ'=[some (.ref a),some (.ref Pc),some (.ref Tp),some (.int p),some (.ref g),o5,some v,some (.bl (E4 xs p o)),none,none,none]/\Same H5 G) ?_ fun key=>?_
   rotate_left
   . exact ⟨_,rfl,_,rfl,_,rfl,Pc,xs,p,v,o,rfl,LP5,h4,by omega,hp0,h98,hv5,fun H' s'=>key _ _ ⟨rfl,s'⟩⟩
   rintro _ H6 ⟨rfl,s6⟩
   refine Aq (fun σ' G=>∃ Cp:Addr,σ'=[some (.ref a),some (.ref Pc),some (.ref Tp),some (.int p),some (.ref g),o5,some v,some (.bl (E4 xs p o)),some (.ref Cp),none,none]/\Same H6 G/\G Cp=some (.lst us)) ?_ fun key=>?_
   rotate_left
   . exact ⟨_,rfl,Pc,us,rfl,.inl (.of (s6 _ _ hPc5)),fun Cp hCp=>key _ _ ⟨Cp,rfl,Same.new hCp,Ac⟩⟩
   rintro _ H7 ⟨Cp,rfl,s7,hCp⟩
   have s57:=s6.trans s7
   have rC7:Reps K H7 us (xs.map tI):=Reps.same (s5.trans s57) r4
   have LC7:LT K H7 (.ref Cp) xs:=⟨Cp,us,rfl,.of hCp,rC7⟩
   have hv7:=hv5.same s57
   refine Aq (fun σ' G=>∃ o9 o10,σ'=[some (.ref a),some (.ref Pc),some (.ref Tp),some (.int p),some (.ref g),o5,some v,some (.bl (E4 xs p o)),some (.ref Cp),o9,o10]/\Same H7 G) ?_ fun key=>?_
   rotate_left
   . refine⟨_,rfl,by decide,by decide,?_⟩
     refine Co (lo:=0) (n:=2) (fun j σ' G=>∃ o9 o10,σ'=[some (.ref a),some (.ref Pc),some (.ref Tp),some (.int p),some (.ref g),o5,some v,some (.bl (E4 xs p o)),some (.ref Cp),o9,o10]/\Same H7 G) ⟨none,none,rfl,Same.refl H7⟩ ?_ ?_
     . rintro j σ' G hj ⟨o9,o10,rfl,s8⟩
       refine Aq (fun σ2 G2=>σ2=[some (.ref a),some (.ref Pc),some (.ref Tp),some (.int p),some (.ref g),o5,some v,some (.bl (E4 xs p o)),some (.ref Cp),some (.int (0+(j:Int))),some (.bl (E4 xs p o))]/\Same G G2) ?_ fun key2=>?_
       rotate_left
       . exact ⟨_,rfl,_,rfl,_,rfl,Cp,xs,p,v,o,rfl,Rep.same s8 LC7,h4,by omega,hp0,h98,hv7.same s8,fun H' s'=>key2 _ _ ⟨rfl,s'⟩⟩
       rintro _ G2 ⟨rfl,s9⟩
       refine⟨_,rfl,_,"bool",.bl (E4 xs p o),rfl,.inr (.inl rfl),rfl,_,rfl,?_⟩
       refine ifN (fun z=>nomatch (show false=true from z)) ?_
       refine⟨_,rfl,_,rfl,rfl,_,rfl,?_⟩
       refine ifN (by simp) ?_
       exact ⟨_,_,rfl,s8.trans s9⟩
     . rintro σ' G ⟨o9,o10,rfl,s8⟩
       exact key _ _ ⟨o9,o10,rfl,s8⟩
   rintro _ H8 ⟨o9,o10,rfl,s8⟩
   have s58:=s57.trans s8
   refine⟨_,rfl,_,rfl,.lst (xs.map tI),.lst (xs.map tI),Rep.same s8 LC7,Rep.same s58 LP5,?_,_,rfl,?_⟩
   . have:=Ju xs
     show deps (xs.map tI)+1<=8
     omega
   refine ifP (Oy _) ?_
   refine⟨_,rfl,_,rfl,_,rfl,Pc,xs,p,v,o,rfl,Rep.same s58 LP5,h4,by omega,hp0,h98,hv5.same s58,fun H' s'=>?_⟩
   refine⟨_,rfl,rfl,?_⟩
   rw [decide_eq_true rfl]
   exact k H'
end
end Hb
namespace Hb
open PySem L2
theorem b9 {α:Type}{P:List α->Prop} (h:∀ a0,P [a0]) (us:List α) (hl:us.length=1):P us:=by
 cases us with
 | nil=>exact nomatch hl
 | cons a0 u0 =>
   cases u0 with
   | nil=>exact h a0
   | cons _ _=>simp at hl
theorem Lw {α:Type}{P:List α->Prop} (h:∀ a0 a1,P [a0,a1]) (us:List α) (hl:us.length=2):P us:=by
 cases us with
 | nil=>exact nomatch hl
 | cons a0 u0 =>
   cases u0 with
   | nil=>exact nomatch hl
   | cons a1 u1 =>
     cases u1 with
     | nil=>exact h a0 a1
     | cons _ _=>simp at hl
theorem Nh {α:Type}{P:List α->Prop} (h:∀ a0 a1 a2,P [a0,a1,a2]) (us:List α) (hl:us.length=3):P us:=by
 cases us with
 | nil=>exact nomatch hl
 | cons a0 u0 =>
   cases u0 with
   | nil=>exact nomatch hl
   | cons a1 u1 =>
     cases u1 with
     | nil=>exact nomatch hl
     | cons a2 u2 =>
       cases u2 with
       | nil=>exact h a0 a1 a2
       | cons _ _=>simp at hl
theorem A36 {α:Type}{P:List α->Prop} (h:∀ a0 a1 a2 a3,P [a0,a1,a2,a3]) (us:List α) (hl:us.length=4):P us:=by
 cases us with
 | nil=>exact nomatch hl
 | cons a0 u0 =>
   cases u0 with
   | nil=>exact nomatch hl
   | cons a1 u1 =>
     cases u1 with
     | nil=>exact nomatch hl
     | cons a2 u2 =>
       cases u2 with
       | nil=>exact nomatch hl
       | cons a3 u3 =>
         cases u3 with
         | nil=>exact h a0 a1 a2 a3
         | cons _ _=>simp at hl
set_option maxHeartbeats 4000000 in
theorem all_mk {l:PySem.W.OpenLaw}{w:World}{K:W.Frag}{h:Heap}{mg:Str->Option Value}{fa:Addr}{Ad:Addr}
 {Na:Addr}{Zh i8:Option Addr}{Yi:Array (Option Value)}{Zo Z5 d5 Y0 Qp f7:Value}
 {Ea:Addr}{Mv Nv:Option Addr}{Mg:Array (Option Value)}{My M4 Nj Mo Gk Nn:Value}
 {M9:Addr}{Zg i7:Option Addr}{Yh:Array (Option Value)}{Zn Z4 c9 Yz Qo f6:Value}
 {G9:Addr}{Rt Sj:Option Addr}{Ra:Array (Option Value)}{Rx R7 Sb Rl Km Sf:Value}
 {Va:Addr}{Ai1 Ap8:Option Addr}{Af7:Array (Option Value)}{Ai3 Ak5 Am9 Ag9 Xp An5:Value}
 {b8:Addr}{As9 Av4:Option Addr}{Aq7:Array (Option Value)}{At0 At9 Au5 Ar4 r6 Av0:Value}
 {Iy:Addr}{Ul Vr:Option Addr}{Tr:Array (Option Value)}{Ur U1 Vf T7 Ly Vk:Value}
 {Qa:Addr}{Aa4 Ae2:Option Addr}{v7:Array (Option Value)}{Aa8 Ab8 Ac8 y9 Sx Ad2:Value}
 {Qb:Addr}{Aa5 Ae3:Option Addr}{v9:Array (Option Value)}{Aa9 Ab9 Ac9 z0 Sy Ad3:Value}
 {Qc:Addr}{Aa6 Ae4:Option Addr}{w9:Array (Option Value)}{Ab0 Ac0 Ad0 z6 Sz Ad4:Value}
 {Cw:Addr}{J5 Kg:Option Addr}{Jx:Array (Option Value)}{J7 J9 Kc J1 Eh Ke:Value}
 {K8:Addr}{Wp X5:Option Addr}{V8:Array (Option Value)}{Ws W1 Xf Wg N9 Xi:Value}
 {Ja:Addr}{Up Vu:Option Addr}{Tv:Array (Option Value)}{Uu U4 Vi Ua L3 Vn:Value}
 {K7:Addr}{Wo X4:Option Addr}{V7:Array (Option Value)}{Wr Wz Xe Wf N8 Xh:Value}
 {Eb:Addr}{Mw Nw:Option Addr}{Mh:Array (Option Value)}{Mz M5 Nk Mp Gm No:Value}
 {Al9:Addr}{A06 A47:Option Addr}{Ay2:Array (Option Value)}{A08 A21 A37 Az1 Ao2 A40:Value}
 {K6:Addr}{Wn X3:Option Addr}{V6:Array (Option Value)}{Wq Wy Xd We N7 Xg:Value}
 {G8:Addr}{Rs Si:Option Addr}{Q9:Array (Option Value)}{Rw R6 Sa Rk Kl Se:Value}
 {Jb:Addr}{Uq Vv:Option Addr}{Tw:Array (Option Value)}{Uv U5 Vj Ub L4 Vo:Value}
 {Hf:Addr}{Ru Sk:Option Addr}{Rb:Array (Option Value)}{Ry R8 Sc Rm Kn Sg:Value}
 {F2:Addr}{Pn Q1:Option Addr}{O6:Array (Option Value)}{Pq P2 Qh Pg Je Ql:Value}
 {Nf:Addr}{Zl j5:Option Addr}{Ym:Array (Option Value)}{Zs Z9 e7 Y4 Qt g8:Value}
 {Cv:Addr}{J4 Kf:Option Addr}{Jw:Array (Option Value)}{J6 J8 Kb J0 Eg Kd:Value}
 {Nb:Addr}{Zi i9:Option Addr}{Yj:Array (Option Value)}{Zp Z6 d6 Y1 Qq f8:Value}
 {Cr:Addr}{Mx Nx:Option Addr}{Mi:Array (Option Value)}{M0 M6 Nl Mq Gn Np:Value}
 {Dy:Addr}{Po Q2:Option Addr}{O7:Array (Option Value)}{Pr P3 Qi Ph Jf Qm:Value}
 {Iz:Addr}{Um Vs:Option Addr}{Ts:Array (Option Value)}{Us U2 Vg T8 Lz Vl:Value}
 {I0:Addr}{Uo Vt:Option Addr}{Tu:Array (Option Value)}{Ut U3 Vh T9 L1 Vm:Value}
 {Am0:Addr}{A07 A48:Option Addr}{Ay4:Array (Option Value)}{A09 A22 A38 Az2 Ao4 A41:Value}
 {P9:Addr}{Aa3 Ae1:Option Addr}{v6:Array (Option Value)}{Aa7 Ab7 Ac7 y8 Sw Ad1:Value}
 {Cf:Addr}{Hq Hv:Option Addr}{Hm:Array (Option Value)}{Hr Hs Ht Hn Ee Hu:Value}
 {Ec:Addr}{Hl:Nat}{F6:Array (Option Value)}{F7:Option Addr}{tk_Growth__init__0:Tok}
 {Ng:Addr}{Zm j6:Option Addr}{Yn:Array (Option Value)}{Zt a8 e8 Y5 Qu g9:Value}
 {Nd:Addr}{Zk j4:Option Addr}{Yl:Array (Option Value)}{Zr Z8 d9 Y3 Qs g7:Value}
 {Ek:Addr}{Rv Sl:Option Addr}{Rc:Array (Option Value)}{Rz R9 Sd Rn Ko Sh:Value}
 {Bz:Addr}{Ft F5:Option Addr}{Fl:Array (Option Value)}{Fu Fw F3 Fo Cq F4:Value}
 {Nc:Addr}{Zj j3:Option Addr}{Yk:Array (Option Value)}{Zq Z7 d8 Y2 Qr f9:Value}
 {U9:Addr}{Ai0 Ap7:Option Addr}{Af6:Array (Option Value)}{Ai2 Ak4 Am8 Ag8 Xo An4:Value}
 {F1:Addr}{Pm Q0:Option Addr}{O5:Array (Option Value)}{Pp P1 Qg Pf Jd Qk:Value}
 {A34:Addr}{A86 Ax5:Option Addr}{A66:Array (Option Value)}{A87 Aw8 Ax2 Aw1 Ao3 Ax3:Value}
 {t_MOST_PIECES:Tok}
 {t_PRIME_BOUND:Tok}
 {t_LEVELS:Tok}
 {fc_FACE_COUNTS:Addr}{nc_FACE_COUNTS:Nat}{slc_FACE_COUNTS:Array (Option Value)}{tc_FACE_COUNTS_0 tc_FACE_COUNTS_1 tc_FACE_COUNTS_2 tc_FACE_COUNTS_3:Tok}
 (X:K.In h) (G:h.Ns mainGlobals mg) (hfa:mg "law"=some (.ref fa))
 (ac_Growth:PySem.W.nsIn K mainGlobals "Growth"=some (some (.ref Ad)))
 (zq3b:PySem.W.nsIn K mainGlobals "is_whole"=some (some (.ref Na)))
 (zq2x:K.lookup Na=some ⟨Zo,Zh,.func (PySem.W.fnOf "is_whole" "is_whole" (Av Ep) (As Ep) (Ah Ep) .none Z5 d5 Y0 i8 Qp f7),Yi⟩)
 (zq34:PySem.W.codeIn K Qp "is_whole"=true)
 (zq2d:PySem.W.keepIn K (.ref Na)=true)
 (zq0s:PySem.W.nsIn K mainGlobals "shared_divisor"=some (some (.ref Ea)))
 (zq0m:K.lookup Ea=some ⟨My,Mv,.func (PySem.W.fnOf "shared_divisor" "shared_divisor" (Av Bk) (As Bk) (Ah Bk) .none M4 Nj Mo Nv Gk Nn),Mg⟩)
 (zq0p:PySem.W.codeIn K Gk "shared_divisor"=true)
 (zq06:PySem.W.keepIn K (.ref Ea)=true)
 (zq3a:PySem.W.nsIn K mainGlobals "level_of"=some (some (.ref M9)))
 (zq2w:K.lookup M9=some ⟨Zn,Zg,.func (PySem.W.fnOf "level_of" "level_of" (Av Eo) (As Eo) (Ah Eo) .none Z4 c9 Yz i7 Qo f6),Yh⟩)
 (zq33:PySem.W.codeIn K Qo "level_of"=true)
 (zq2c:PySem.W.keepIn K (.ref M9)=true)
 (zq1u:PySem.W.nsIn K mainGlobals "faces_agree"=some (some (.ref G9)))
 (zq1j:K.lookup G9=some ⟨Rx,Rt,.func (PySem.W.fnOf "faces_agree" "faces_agree" (Av Ci) (As Ci) (Ah Ci) .none R7 Sb Rl Sj Km Sf),Ra⟩)
 (zq1q:PySem.W.codeIn K Km "faces_agree"=true)
 (zq0w:PySem.W.keepIn K (.ref G9)=true)
 (zq41:PySem.W.nsIn K mainGlobals "add_at"=some (some (.ref Va)))
 (zq3w:K.lookup Va=some ⟨Ai3,Ai1,.func (PySem.W.fnOf "add_at" "add_at" (Av Go) (As Go) (Ah Go) .none Ak5 Am9 Ag9 Ap8 Xp An5),Af7⟩)
 (zq3z:PySem.W.codeIn K Xp "add_at"=true)
 (zq3i:PySem.W.keepIn K (.ref Va)=true)
 (zq44:PySem.W.nsIn K mainGlobals "times"=some (some (.ref b8)))
 (zq42:K.lookup b8=some ⟨At0,As9,.func (PySem.W.fnOf "times" "times" (Av Mn) (As Mn) (Ah Mn) .none At9 Au5 Ar4 Av4 r6 Av0),Aq7⟩)
 (zq43:PySem.W.codeIn K r6 "times"=true)
 (zq3x:PySem.W.keepIn K (.ref b8)=true)
 (zq27:PySem.W.nsIn K mainGlobals "check_size"=some (some (.ref Iy)))
 (zq1x:K.lookup Iy=some ⟨Ur,Ul,.func (PySem.W.fnOf "check_size" "check_size" (Av Cy) (As Cy) (Ah Cy) .none U1 Vf T7 Vr Ly Vk),Tr⟩)
 (zq22:PySem.W.codeIn K Ly "check_size"=true)
 (zq13:PySem.W.keepIn K (.ref Iy)=true)
 (zq3s:PySem.W.nsIn K mainGlobals "counted"=some (some (.ref Qa)))
 (zq3k:K.lookup Qa=some ⟨Aa8,Aa4,.func (PySem.W.fnOf "counted" "counted" (Av Gb) (As Gb) (Ah Gb) .none Ab8 Ac8 y9 Ae2 Sx Ad2),v7⟩)
 (zq3o:PySem.W.codeIn K Sx "counted"=true)
 (zq2t:PySem.W.keepIn K (.ref Qa)=true)
 (zq3t:PySem.W.nsIn K mainGlobals "_law_whole"=some (some (.ref Qb)))
 (zq3l:K.lookup Qb=some ⟨Aa9,Aa5,.func (PySem.W.fnOf "_law_whole" "_law_whole" (Av Gc) (As Gc) (Ah Gc) .none Ab9 Ac9 z0 Ae3 Sy Ad3),v9⟩)
 (zq3p:PySem.W.codeIn K Sy "_law_whole"=true)
 (zq2u:PySem.W.keepIn K (.ref Qb)=true)
 (zq3u:PySem.W.nsIn K mainGlobals "_law_level"=some (some (.ref Qc)))
 (zq3m:K.lookup Qc=some ⟨Ab0,Aa6,.func (PySem.W.fnOf "_law_level" "_law_level" (Av Gd) (As Gd) (Ah Gd) .none Ac0 Ad0 z6 Ae4 Sz Ad4),w9⟩)
 (zq3q:PySem.W.codeIn K Sz "_law_level"=true)
 (zq2v:PySem.W.keepIn K (.ref Qc)=true)
 (zq0f:PySem.W.nsIn K mainGlobals "_law_without_noughts"=some (some (.ref Cw)))
 (zq0b:K.lookup Cw=some ⟨J7,J5,.func (PySem.W.fnOf "_law_without_noughts" "_law_without_noughts" (Av A6) (As A6) (Ah A6) .none J9 Kc J1 Kg Eh Ke),Jx⟩)
 (zq0d:PySem.W.codeIn K Eh "_law_without_noughts"=true)
 (zq05:PySem.W.keepIn K (.ref Cw)=true)
 (zq2r:PySem.W.nsIn K mainGlobals "_law_cell_at"=some (some (.ref K8)))
 (zq2l:K.lookup K8=some ⟨Ws,Wp,.func (PySem.W.fnOf "_law_cell_at" "_law_cell_at" (Av Dn) (As Dn) (Ah Dn) .none W1 Xf Wg X5 N9 Xi),V8⟩)
 (zq2o:PySem.W.codeIn K N9 "_law_cell_at"=true)
 (zq1o:PySem.W.keepIn K (.ref K8)=true)
 (zq2a:PySem.W.nsIn K mainGlobals "_law_faces_by"=some (some (.ref Ja)))
 (zq20:K.lookup Ja=some ⟨Uu,Up,.func (PySem.W.fnOf "_law_faces_by" "_law_faces_by" (Av Cz) (As Cz) (Ah Cz) .none U4 Vi Ua Vu L3 Vn),Tv⟩)
 (zq25:PySem.W.codeIn K L3 "_law_faces_by"=true)
 (zq16:PySem.W.keepIn K (.ref Ja)=true)
 (zq2q:PySem.W.nsIn K mainGlobals "_law_word_by"=some (some (.ref K7)))
 (zq2k:K.lookup K7=some ⟨Wr,Wo,.func (PySem.W.fnOf "_law_word_by" "_law_word_by" (Av Dk) (As Dk) (Ah Dk) .none Wz Xe Wf X4 N8 Xh),V7⟩)
 (zq2n:PySem.W.codeIn K N8 "_law_word_by"=true)
 (zq1n:PySem.W.keepIn K (.ref K7)=true)
 (zq0t:PySem.W.nsIn K mainGlobals "is_whole_below"=some (some (.ref Eb)))
 (zq0n:K.lookup Eb=some ⟨Mz,Mw,.func (PySem.W.fnOf "is_whole_below" "is_whole_below" (Av Bl) (As Bl) (Ah Bl) .none M5 Nk Mp Nw Gm No),Mh⟩)
 (zq0q:PySem.W.codeIn K Gm "is_whole_below"=true)
 (zq07:PySem.W.keepIn K (.ref Eb)=true)
 (zq4b:PySem.W.nsIn K mainGlobals "plus"=some (some (.ref Al9)))
 (zq47:K.lookup Al9=some ⟨A08,A06,.func (PySem.W.fnOf "plus" "plus" (Av Sq) (As Sq) (Ah Sq) .none A21 A37 Az1 A47 Ao2 A40),Ay2⟩)
 (zq49:PySem.W.codeIn K Ao2 "plus"=true)
 (zq45:PySem.W.keepIn K (.ref Al9)=true)
 (zq2p:PySem.W.nsIn K mainGlobals "add_faces"=some (some (.ref K6)))
 (zq2j:K.lookup K6=some ⟨Wq,Wn,.func (PySem.W.fnOf "add_faces" "add_faces" (Av Dj) (As Dj) (Ah Dj) .none Wy Xd We X3 N7 Xg),V6⟩)
 (zq2m:PySem.W.codeIn K N7 "add_faces"=true)
 (zq1m:PySem.W.keepIn K (.ref K6)=true)
 (zq1t:PySem.W.nsIn K mainGlobals "turned_over"=some (some (.ref G8)))
 (zq1i:K.lookup G8=some ⟨Rw,Rs,.func (PySem.W.fnOf "turned_over" "turned_over" (Av Ch) (As Ch) (Ah Ch) .none R6 Sa Rk Si Kl Se),Q9⟩)
 (zq1p:PySem.W.codeIn K Kl "turned_over"=true)
 (zq0v:PySem.W.keepIn K (.ref G8)=true)
 (zq2b:PySem.W.nsIn K mainGlobals "_law_chain_is"=some (some (.ref Jb)))
 (zq21:K.lookup Jb=some ⟨Uv,Uq,.func (PySem.W.fnOf "_law_chain_is" "_law_chain_is" (Av Cb) (As Cb) (Ah Cb) .none U5 Vj Ub Vv L4 Vo),Tw⟩)
 (zq26:PySem.W.codeIn K L4 "_law_chain_is"=true)
 (zq17:PySem.W.keepIn K (.ref Jb)=true)
 (zq1v:PySem.W.nsIn K mainGlobals "_law_border_by"=some (some (.ref Hf)))
 (zq1k:K.lookup Hf=some ⟨Ry,Ru,.func (PySem.W.fnOf "_law_border_by" "_law_border_by" (Av B1) (As B1) (Ah B1) .none R8 Sc Rm Sk Kn Sg),Rb⟩)
 (zq1r:PySem.W.codeIn K Kn "_law_border_by"=true)
 (zq0x:PySem.W.keepIn K (.ref Hf)=true)
 (zq1g:PySem.W.nsIn K mainGlobals "_law_words_with"=some (some (.ref F2)))
 (zq19:K.lookup F2=some ⟨Pq,Pn,.func (PySem.W.fnOf "_law_words_with" "_law_words_with" (Av Bp) (As Bp) (Ah Bp) .none P2 Qh Pg Q1 Je Ql),O6⟩)
 (zq1d:PySem.W.codeIn K Je "_law_words_with"=true)
 (zq0j:PySem.W.keepIn K (.ref F2)=true)
 (zq3f:PySem.W.nsIn K mainGlobals "_law_spoilt"=some (some (.ref Nf)))
 (zq31:K.lookup Nf=some ⟨Zs,Zl,.func (PySem.W.fnOf "_law_spoilt" "_law_spoilt" (Av Dl) (As Dl) (Ah Dl) .none Z9 e7 Y4 j5 Qt g8),Ym⟩)
 (zq38:PySem.W.codeIn K Qt "_law_spoilt"=true)
 (zq2h:PySem.W.keepIn K (.ref Nf)=true)
 (zq0e:PySem.W.nsIn K mainGlobals "is_place_of_level"=some (some (.ref Cv)))
 (zq0a:K.lookup Cv=some ⟨J6,J4,.func (PySem.W.fnOf "is_place_of_level" "is_place_of_level" (Av Ba) (As Ba) (Ah Ba) .none J8 Kb J0 Kf Eg Kd),Jw⟩)
 (zq0c:PySem.W.codeIn K Eg "is_place_of_level"=true)
 (zq04:PySem.W.keepIn K (.ref Cv)=true)
 (zq3c:PySem.W.nsIn K mainGlobals "is_prime"=some (some (.ref Nb)))
 (zq2y:K.lookup Nb=some ⟨Zp,Zi,.func (PySem.W.fnOf "is_prime" "is_prime" (Av Er) (As Er) (Ah Er) .none Z6 d6 Y1 i9 Qq f8),Yj⟩)
 (zq35:PySem.W.codeIn K Qq "is_prime"=true)
 (zq2e:PySem.W.keepIn K (.ref Nb)=true)
 (zq0u:PySem.W.findIn K (.ref Ad) "settled"=some (some (.ref Cr)))
 (zq0h:PySem.W.isFn K (.ref Cr)=true)
 (zq0o:K.lookup Cr=some ⟨M0,Mx,.func (PySem.W.fnOf "settled" "Growth.settled" (Av Bf) (As Bf) (Ah Bf) .none M6 Nl Mq Nx Gn Np),Mi⟩)
 (zq0r:PySem.W.codeIn K Gn "Growth.settled"=true)
 (zq08:PySem.W.keepIn K (.ref Cr)=true)
 (zq1h:PySem.W.findIn K (.ref Ad) "paper"=some (some (.ref Dy)))
 (zq11:PySem.W.isFn K (.ref Dy)=true)
 (zq1a:K.lookup Dy=some ⟨Pr,Po,.func (PySem.W.fnOf "paper" "Growth.paper" (Av B7) (As B7) (Ah B7) .none P3 Qi Ph Q2 Jf Qm),O7⟩)
 (zq1e:PySem.W.codeIn K Jf "Growth.paper"=true)
 (zq0k:PySem.W.keepIn K (.ref Dy)=true)
 (zq28:PySem.W.nsIn K mainGlobals "_law_shape_by"=some (some (.ref Iz)))
 (zq1y:K.lookup Iz=some ⟨Us,Um,.func (PySem.W.fnOf "_law_shape_by" "_law_shape_by" (Av B9) (As B9) (Ah B9) .none U2 Vg T8 Vs Lz Vl),Ts⟩)
 (zq23:PySem.W.codeIn K Lz "_law_shape_by"=true)
 (zq14:PySem.W.keepIn K (.ref Iz)=true)
 (zq29:PySem.W.nsIn K mainGlobals "_law_paper_is"=some (some (.ref I0)))
 (zq1z:K.lookup I0=some ⟨Ut,Uo,.func (PySem.W.fnOf "_law_paper_is" "_law_paper_is" (Av Ca) (As Ca) (Ah Ca) .none U3 Vh T9 Vt L1 Vm),Tu⟩)
 (zq24:PySem.W.codeIn K L1 "_law_paper_is"=true)
 (zq15:PySem.W.keepIn K (.ref I0)=true)
 (zq4c:PySem.W.nsIn K mainGlobals "fits"=some (some (.ref Am0)))
 (zq48:K.lookup Am0=some ⟨A09,A07,.func (PySem.W.fnOf "fits" "fits" (Av Pb) (As Pb) (Ah Pb) .none A22 A38 Az2 A48 Ao4 A41),Ay4⟩)
 (zq4a:PySem.W.codeIn K Ao4 "fits"=true)
 (zq46:PySem.W.keepIn K (.ref Am0)=true)
 (zq3r:PySem.W.nsIn K mainGlobals "is_part"=some (some (.ref P9)))
 (zq3j:K.lookup P9=some ⟨Aa7,Aa3,.func (PySem.W.fnOf "is_part" "is_part" (Av Ga) (As Ga) (Ah Ga) .none Ab7 Ac7 y8 Ae1 Sw Ad1),v6⟩)
 (zq3n:PySem.W.codeIn K Sw "is_part"=true)
 (zq2s:PySem.W.keepIn K (.ref P9)=true)
 (zq0g:PySem.W.findIn K (.ref Ad) "__init__"=some (some (.ref Cf)))
 (zq09:PySem.W.isFn K (.ref Cf)=true)
 (zq0z:K.lookup Cf=some ⟨Hr,Hq,.func (PySem.W.fnOf "__init__" "Growth.__init__" (Av Bw) (As Bw) (Ah Bw) (.ref Ec) Hs Ht Hn Hv Ee Hu),Hm⟩)
 (zq0l:K.lookup Ec=some ⟨.type "tuple",F7,.seq #[.int 2 tk_Growth__init__0] Hl,F6⟩)
 (zq12:PySem.W.codeIn K Ee "Growth.__init__"=true)
 (zq10:PySem.W.keepIn K (.ref Cf)=true)
 (zq3g:PySem.W.nsIn K mainGlobals "_law_due_of"=some (some (.ref Ng)))
 (zq32:K.lookup Ng=some ⟨Zt,Zm,.func (PySem.W.fnOf "_law_due_of" "_law_due_of" (Av Dm) (As Dm) (Ah Dm) .none a8 e8 Y5 j6 Qu g9),Yn⟩)
 (zq39:PySem.W.codeIn K Qu "_law_due_of"=true)
 (zq2i:PySem.W.keepIn K (.ref Ng)=true)
 (zq3e:PySem.W.nsIn K mainGlobals "is_chain"=some (some (.ref Nd)))
 (zq30:K.lookup Nd=some ⟨Zr,Zk,.func (PySem.W.fnOf "is_chain" "is_chain" (Av Es) (As Es) (Ah Es) .none Z8 d9 Y3 j4 Qs g7),Yl⟩)
 (zq37:PySem.W.codeIn K Qs "is_chain"=true)
 (zq2g:PySem.W.keepIn K (.ref Nd)=true)
 (zq1w:PySem.W.findIn K (.ref Ad) "grow"=some (some (.ref Ek)))
 (zq1b:PySem.W.isFn K (.ref Ek)=true)
 (zq1l:K.lookup Ek=some ⟨Rz,Rv,.func (PySem.W.fnOf "grow" "Growth.grow" (Av B2) (As B2) (Ah B2) .none R9 Sd Rn Sl Ko Sh),Rc⟩)
 (zq1s:PySem.W.codeIn K Ko "Growth.grow"=true)
 (zq0y:PySem.W.keepIn K (.ref Ek)=true)
 (zq03:PySem.W.nsIn K mainGlobals "is_chain_of_some_level"=some (some (.ref Bz)))
 (zq01:K.lookup Bz=some ⟨Fu,Ft,.func (PySem.W.fnOf "is_chain_of_some_level" "is_chain_of_some_level" (Av Az) (As Az) (Ah Az) .none Fw F3 Fo F5 Cq F4),Fl⟩)
 (zq02:PySem.W.codeIn K Cq "is_chain_of_some_level"=true)
 (zq00:PySem.W.keepIn K (.ref Bz)=true)
 (zq3d:PySem.W.nsIn K mainGlobals "is_paper"=some (some (.ref Nc)))
 (zq2z:K.lookup Nc=some ⟨Zq,Zj,.func (PySem.W.fnOf "is_paper" "is_paper" (Av Di) (As Di) (Ah Di) .none Z7 d8 Y2 j3 Qr f9),Yk⟩)
 (zq36:PySem.W.codeIn K Qr "is_paper"=true)
 (zq2f:PySem.W.keepIn K (.ref Nc)=true)
 (zq40:PySem.W.nsIn K mainGlobals "border"=some (some (.ref U9)))
 (zq3v:K.lookup U9=some ⟨Ai2,Ai0,.func (PySem.W.fnOf "border" "border" (Av Jl) (As Jl) (Ah Jl) .none Ak4 Am8 Ag8 Ap7 Xo An4),Af6⟩)
 (zq3y:PySem.W.codeIn K Xo "border"=true)
 (zq3h:PySem.W.keepIn K (.ref U9)=true)
 (zq1f:PySem.W.nsIn K mainGlobals "growth_holds"=some (some (.ref F1)))
 (zq18:K.lookup F1=some ⟨Pp,Pm,.func (PySem.W.fnOf "growth_holds" "growth_holds" (Av B6) (As B6) (Ah B6) .none P1 Qg Pf Q0 Jd Qk),O5⟩)
 (zq1c:PySem.W.codeIn K Jd "growth_holds"=true)
 (zq0i:PySem.W.keepIn K (.ref F1)=true)
 (zq4g:PySem.W.nsIn K mainGlobals "law"=some (some (.ref A34)))
 (zq4d:K.lookup A34=some ⟨A87,A86,.func (PySem.W.fnOf "law" "law" (Av Ri) (As Ri) (Ah Ri) .none Aw8 Ax2 Aw1 Ax5 Ao3 Ax3),A66⟩)
 (zq4f:PySem.W.codeIn K Ao3 "law"=true)
 (zq4e:PySem.W.keepIn K (.ref A34)=true)
 (mk_Growth:PySem.W.makesIn K Ad=true)
 (kc_Growth:PySem.W.keepIn K (.ref Ad)=true)
 (pg_Growth:PySem.W.plainGet K Ad Str.empty=true)
 (hd_Growth:PySem.W.hasDictIn K Ad=true)
 (po_Growth:PySem.W.plainOver K Ad=true)
 (sa_Growth:PySem.W.findIn K (.ref Ad) "__setattr__"=some (some (.builtin "object.__setattr__")))
 (na_Growth_prime:PySem.W.findIn K (.ref Ad) "prime"=some none)
 (na_Growth_pieces:PySem.W.findIn K (.ref Ad) "pieces"=some none)
 (na_Growth_sheets:PySem.W.findIn K (.ref Ad) "sheets"=some none)
 (na_Growth_edges:PySem.W.findIn K (.ref Ad) "edges"=some none)
 (na_Growth_enders:PySem.W.findIn K (.ref Ad) "enders"=some none)
 (ac_FACE_COUNTS:PySem.W.nsIn K mainGlobals "FACE_COUNTS"=some (some (.ref fc_FACE_COUNTS)))
 (lc_FACE_COUNTS:K.lookup fc_FACE_COUNTS=some ⟨.type "tuple",none,.seq #[.int 0 tc_FACE_COUNTS_0,.int 2 tc_FACE_COUNTS_1,.int 3 tc_FACE_COUNTS_2,.int 4 tc_FACE_COUNTS_3] nc_FACE_COUNTS,slc_FACE_COUNTS⟩)
 (aq_MOST_PIECES:PySem.W.nsIn K mainGlobals "MOST_PIECES"=some (some (.int 40 t_MOST_PIECES)))
 (aq_PRIME_BOUND:PySem.W.nsIn K mainGlobals "PRIME_BOUND"=some (some (.int 98 t_PRIME_BOUND)))
 (aq_LEVELS:PySem.W.nsIn K mainGlobals "LEVELS"=some (some (.int 4 t_LEVELS)))
 (z_isinstance:PySem.W.nsIn K mainGlobals "isinstance"=some none)
 (z_int:PySem.W.nsIn K mainGlobals "int"=some none)
 (z_bool:PySem.W.nsIn K mainGlobals "bool"=some none)
 (z_tuple:PySem.W.nsIn K mainGlobals "tuple"=some none)
 (z_zip:PySem.W.nsIn K mainGlobals "zip"=some none)
 (z_max:PySem.W.nsIn K mainGlobals "max"=some none)
 (z_len:PySem.W.nsIn K mainGlobals "len"=some none)
 (z_all:PySem.W.nsIn K mainGlobals "all"=some none)
 (z_range:PySem.W.nsIn K mainGlobals "range"=some none)
 (z_dict:PySem.W.nsIn K mainGlobals "dict"=some none)
 (z_any:PySem.W.nsIn K mainGlobals "any"=some none)
 (z_enumerate:PySem.W.nsIn K mainGlobals "enumerate"=some none)
 (z_list:PySem.W.nsIn K mainGlobals "list"=some none)
 (z_set:PySem.W.nsIn K mainGlobals "set"=some none)
 (z_sorted:PySem.W.nsIn K mainGlobals "sorted"=some none) :
 ∃ fd:FuncData,(∀ (s:Shared) (v:Value),BindsTo s fd ⟨[v],[]⟩ [("_law_script",v)])/\∀ base:Heap,K.In base->base.Ns mainGlobals mg->FnOk l.prog w K mg base CX0 9 fa fd ["_law_script"] (j9 K):=by
 have e:=hfa.symm.trans (PySem.W.mg_of X G zq4g)
 cases e
 have T:Txt K mg Ad:=⟨PySem.W.mg_of X G ac_Growth,⟨pg_Growth,hd_Growth,po_Growth,sa_Growth⟩,na_Growth_prime,na_Growth_pieces,na_Growth_sheets,na_Growth_edges,na_Growth_enders,⟨fc_FACE_COUNTS,PySem.W.mg_of X G ac_FACE_COUNTS,fun H=>.inr ⟨_,_,_,lc_FACE_COUNTS,rfl,rfl,rfl,(by show (4:Nat)<=sizeLine;decide),.cons ⟨_,rfl⟩ (.cons ⟨_,rfl⟩ (.cons ⟨_,rfl⟩ (.cons ⟨_,rfl⟩ (.nil))))⟩⟩,⟨_,PySem.W.mg_of X G aq_MOST_PIECES⟩,⟨_,PySem.W.mg_of X G aq_PRIME_BOUND⟩,⟨_,PySem.W.mg_of X G aq_LEVELS⟩,PySem.W.mg_none_of X G z_isinstance,PySem.W.mg_none_of X G z_int,PySem.W.mg_none_of X G z_bool,PySem.W.mg_none_of X G z_tuple,PySem.W.mg_none_of X G z_zip,PySem.W.mg_none_of X G z_max,PySem.W.mg_none_of X G z_len,PySem.W.mg_none_of X G z_all,PySem.W.mg_none_of X G z_range,PySem.W.mg_none_of X G z_dict,PySem.W.mg_none_of X G z_any,PySem.W.mg_none_of X G z_enumerate,PySem.W.mg_none_of X G z_list,PySem.W.mg_none_of X G z_set,PySem.W.mg_none_of X G z_sorted⟩
 have Tb:=A9 (st:=Ep) zq2x zq34 zq2d
 have Hx:=A9 (st:=Bk) zq0m zq0p zq06
 have Ta:=A9 (st:=Eo) zq2w zq33 zq2c
 have L8:=A9 (st:=Ci) zq1j zq1q zq0w
 have u4:=A9 (st:=Go) zq3w zq3z zq3i
 have Aq1:=A9 (st:=Mn) zq42 zq43 zq3x
 have Oa:=A9 (st:=Cy) zq1x zq22 zq13
 have X7:=A9 (st:=Gb) zq3k zq3o zq2t
 have X8:=A9 (st:=Gc) zq3l zq3p zq2u
 have X9:=A9 (st:=Gd) zq3m zq3q zq2v
 have Fb:=A9 (st:=A6) zq0b zq0d zq05
 have Q8:=A9 (st:=Dn) zq2l zq2o zq1o
 have Od:=A9 (st:=Cz) zq20 zq25 zq16
 have Q7:=A9 (st:=Dk) zq2k zq2n zq1n
 have Hy:=A9 (st:=Bl) zq0n zq0q zq07
 have Ax6:=A9 (st:=Sq) zq47 zq49 zq45
 have Q6:=A9 (st:=Dj) zq2j zq2m zq1m
 have L7:=A9 (st:=Ch) zq1i zq1p zq0v
 have Oe:=A9 (st:=Cb) zq21 zq26 zq17
 have L9:=A9 (st:=B1) zq1k zq1r zq0x
 have Kr:=A9 (st:=Bp) zq19 zq1d zq0j
 have Tf:=A9 (st:=Dl) zq31 zq38 zq2h
 have Fa:=A9 (st:=Ba) zq0a zq0c zq04
 have Tc:=A9 (st:=Er) zq2y zq35 zq2e
 have Hz:=A9 (st:=Bf) zq0o zq0r zq08
 have Ks:=A9 (st:=B7) zq1a zq1e zq0k
 have Ob:=A9 (st:=B9) zq1y zq23 zq14
 have Oc:=A9 (st:=Ca) zq1z zq24 zq15
 have Ax7:=A9 (st:=Pb) zq48 zq4a zq46
 have X6:=A9 (st:=Ga) zq3j zq3n zq2s
 have Dd:FunD K "__init__" "Growth.__init__" Bw Cf _ [.int 2 tk_Growth__init__0]:=⟨⟨Hr,Hq,Hs,Ht,Hn,Hv,Ee,Hu,Hm,Ec,Hl,F6,F7,rfl,zq0z,zq12,zq0l⟩,zq10⟩
 have Tg:=A9 (st:=Dm) zq32 zq39 zq2i
 have Te:=A9 (st:=Es) zq30 zq37 zq2g
 have Ma:=A9 (st:=B2) zq1l zq1s zq0y
 have C4:=A9 (st:=Az) zq01 zq02 zq00
 have Td:=A9 (st:=Di) zq2z zq36 zq2f
 have t0:=A9 (st:=Jl) zq3v zq3y zq3h
 have Kq:=A9 (st:=B6) zq18 zq1c zq0i
 have Bf7:=A9 (st:=Ri) zq4d zq4f zq4e
 refine⟨PySem.W.fnOf "law" "law" (Av Ri) (As Ri) (Ah Ri) .none Aw8 Ax2 Aw1 Ax5 Ao3 Ax3,fun s v=>.of_eq rfl,fun base _ _=>?_⟩
 have Et:Has l.prog w K mg base "is_whole" ["thing"] 1 (Ew K):=⟨_,_,PySem.W.mg_of X G zq3b,zq2d,Tb.binds (ps:=["thing"]) (fun _ _ _ _ _ _=>b9 (fun _=>rfl)),Za Tb T ⟩
 have D9:Has l.prog w K mg base "shared_divisor" ["one","other"] 1 (Yf K):=⟨_,_,PySem.W.mg_of X G zq0s,zq06,Hx.binds (ps:=["one","other"]) (fun _ _ _ _ _ _=>Lw (fun _ _=>rfl)),Mr Hx T ⟩
 have Cj:Has l.prog w K mg base "level_of" ["piece"] 1 (Dh K):=⟨_,_,PySem.W.mg_of X G zq3a,zq2c,Ta.binds (ps:=["piece"]) (fun _ _ _ _ _ _=>b9 (fun _=>rfl)),Y9 Ta T ⟩
 have G6:Has l.prog w K mg base "faces_agree" ["shape","faces"] 1 (Fk K):=⟨_,_,PySem.W.mg_of X G zq1u,zq0w,L8.binds (ps:=["shape","faces"]) (fun _ _ _ _ _ _=>Lw (fun _ _=>rfl)),Rp L8 T ⟩
 have Jr:Has l.prog w K mg base "add_at" ["chain","place","number"] 1 (Ic K):=⟨_,_,PySem.W.mg_of X G zq41,zq3i,u4.binds (ps:=["chain","place","number"]) (fun _ _ _ _ _ _=>Nh (fun _ _ _=>rfl)),Ah8 u4 T ⟩
 have U7:Has l.prog w K mg base "times" ["number","chain"] 1 (Tl K):=⟨_,_,PySem.W.mg_of X G zq44,zq3x,Aq1.binds (ps:=["number","chain"]) (fun _ _ _ _ _ _=>Lw (fun _ _=>rfl)),As7 Aq1 T ⟩
 have Ir:Has l.prog w K mg base "check_size" ["pieces"] 1 (Tm K):=⟨_,_,PySem.W.mg_of X G zq27,zq13,Oa.binds (ps:=["pieces"]) (fun _ _ _ _ _ _=>b9 (fun _=>rfl)),Ug Oa T ⟩
 have Cn:Has l.prog w K mg base "counted" ["chain","prime"] 1 (F9 K):=⟨_,_,PySem.W.mg_of X G zq3s,zq2t,X7.binds (ps:=["chain","prime"]) (fun _ _ _ _ _ _=>Lw (fun _ _=>rfl)),Aa0 X7 T ⟩
 have Ls:Has l.prog w K mg base "_law_whole" ["_law_found"] 1 (Mf K):=⟨_,_,PySem.W.mg_of X G zq3t,zq2u,X8.binds (ps:=["_law_found"]) (fun _ _ _ _ _ _=>b9 (fun _=>rfl)),Aa1 X8 T ⟩
 have Gh:Has l.prog w K mg base "_law_level" ["_law_piece"] 1 (Le K):=⟨_,_,PySem.W.mg_of X G zq3u,zq2v,X9.binds (ps:=["_law_piece"]) (fun _ _ _ _ _ _=>b9 (fun _=>rfl)),Aa2 X9 T ⟩
 have Cu:Has l.prog w K mg base "_law_without_noughts" ["_law_total"] 1 (Kv K):=⟨_,_,PySem.W.mg_of X G zq0f,zq05,Fb.binds (ps:=["_law_total"]) (fun _ _ _ _ _ _=>b9 (fun _=>rfl)),J3 Fb T ⟩
 have Br:Has l.prog w K mg base "_law_cell_at" ["_law_script","_law_k"] 1 (Fe K):=⟨_,_,PySem.W.mg_of X G zq2r,zq1o,Q8.binds (ps:=["_law_script","_law_k"]) (fun _ _ _ _ _ _=>Lw (fun _ _=>rfl)),Wm Q8 T ⟩
 have C3:Has l.prog w K mg base "_law_faces_by" ["_law_word","_law_family"] 1 (Ei K):=⟨_,_,PySem.W.mg_of X G zq2a,zq16,Od.binds (ps:=["_law_word","_law_family"]) (fun _ _ _ _ _ _=>Lw (fun _ _=>rfl)),Uj Od T ⟩
 have K5:Has l.prog w K mg base "_law_word_by" ["_law_cell","_law_family","_law_letters"] 1 (Id K):=⟨_,_,PySem.W.mg_of X G zq2q,zq1n,Q7.binds (ps:=["_law_cell","_law_family","_law_letters"]) (fun _ _ _ _ _ _=>Nh (fun _ _ _=>rfl)),Wl Q7 T ⟩
 have A5:Has l.prog w K mg base "is_whole_below" ["thing","bound"] 2 (Bv K):=⟨_,_,PySem.W.mg_of X G zq0t,zq07,Hy.binds (ps:=["thing","bound"]) (fun _ _ _ _ _ _=>Lw (fun _ _=>rfl)),Mt Hy T Et⟩
 have p8:Has l.prog w K mg base "plus" ["one","other"] 2 (Yd K):=⟨_,_,PySem.W.mg_of X G zq4b,zq45,Ax6.binds (ps:=["one","other"]) (fun _ _ _ _ _ _=>Lw (fun _ _=>rfl)),A03 Ax6 T Jr⟩
 have Dr:Has l.prog w K mg base "add_faces" ["chain","faces","number"] 2 (Fd K):=⟨_,_,PySem.W.mg_of X G zq2p,zq1m,Q6.binds (ps:=["chain","faces","number"]) (fun _ _ _ _ _ _=>Nh (fun _ _ _=>rfl)),Wk Q6 T Jr⟩
 have G0:Has l.prog w K mg base "turned_over" ["number","prime"] 2 (Tn K):=⟨_,_,PySem.W.mg_of X G zq1t,zq0v,L7.binds (ps:=["number","prime"]) (fun _ _ _ _ _ _=>Lw (fun _ _=>rfl)),Ro L7 T D9⟩
 have Iv:Has l.prog w K mg base "_law_chain_is" ["_law_shape","_law_level_here","_law_thing"] 2 (Kw K):=⟨_,_,PySem.W.mg_of X G zq2b,zq17,Oe.binds (ps:=["_law_shape","_law_level_here","_law_thing"]) (fun _ _ _ _ _ _=>Nh (fun _ _ _=>rfl)),Uk Oe T Ls Gh⟩
 have G7:Has l.prog w K mg base "_law_border_by" ["_law_shape","_law_chain"] 2 (Ib K):=⟨_,_,PySem.W.mg_of X G zq1v,zq0x,L9.binds (ps:=["_law_shape","_law_chain"]) (fun _ _ _ _ _ _=>Lw (fun _ _=>rfl)),Rq L9 T Cu⟩
 have Fz:Has l.prog w K mg base "_law_words_with" ["_law_words","_law_word","_law_family"] 2 (Ex K):=⟨_,_,PySem.W.mg_of X G zq1g,zq0j,Kr.binds (ps:=["_law_words","_law_word","_law_family"]) (fun _ _ _ _ _ _=>Nh (fun _ _ _=>rfl)),Pk Kr T C3⟩
 have M8:Has l.prog w K mg base "_law_spoilt" ["_law_script","_law_papers","_law_prime"] 2 (Md K):=⟨_,_,PySem.W.mg_of X G zq3f,zq2h,Tf.binds (ps:=["_law_script","_law_papers","_law_prime"]) (fun _ _ _ _ _ _=>Nh (fun _ _ _=>rfl)),Ze Tf T Br⟩
 have Bb:Has l.prog w K mg base "is_place_of_level" ["shape","thing","level"] 3 (Bt K):=⟨_,_,PySem.W.mg_of X G zq0e,zq04,Fa.binds (ps:=["shape","thing","level"]) (fun _ _ _ _ _ _=>Nh (fun _ _ _=>rfl)),J2 Fa T A5 Cj⟩
 have Jq:Has l.prog w K mg base "is_prime" ["thing"] 3 (O2 K):=⟨_,_,PySem.W.mg_of X G zq3c,zq2e,Tc.binds (ps:=["thing"]) (fun _ _ _ _ _ _=>b9 (fun _=>rfl)),Zb Tc T A5⟩
 have Dq:HasM l.prog w K mg base Ad "settled" ["self","sheet","edge"] 3 (Ie K Ad):=⟨_,_,⟨zq0u,zq0h,zq08⟩,Hz.binds (ps:=["self","sheet","edge"]) (fun _ _ _ _ _ _=>Nh (fun _ _ _=>rfl)),Mu Hz T Cn G0 p8 U7⟩
 have E5:HasM l.prog w K mg base Ad "paper" ["self","place"] 3 (O3 K Ad):=⟨_,_,⟨zq1h,zq11,zq0k⟩,Ks.binds (ps:=["self","place"]) (fun _ _ _ _ _ _=>Lw (fun _ _=>rfl)),Pl Ks T A5⟩
 have Is:Has l.prog w K mg base "_law_shape_by" ["_law_kind","_law_cells","_law_most"] 3 (Kt K):=⟨_,_,PySem.W.mg_of X G zq28,zq14,Ob.binds (ps:=["_law_kind","_law_cells","_law_most"]) (fun _ _ _ _ _ _=>Nh (fun _ _ _=>rfl)),Uh Ob T Fz K5 C3⟩
 have Iu:Has l.prog w K mg base "_law_paper_is" ["_law_shape","_law_prime","_law_place","_law_paper"] 3 (Ku K):=⟨_,_,PySem.W.mg_of X G zq29,zq15,Oc.binds (ps:=["_law_shape","_law_prime","_law_place","_law_paper"]) (fun _ _ _ _ _ _=>A36 (fun _ _ _ _=>rfl)),Ui Oc T Iv Gh⟩
 have Al2:Has l.prog w K mg base "fits" ["shape","thing"] 4 (To K):=⟨_,_,PySem.W.mg_of X G zq4c,zq46,Ax7.binds (ps:=["shape","thing"]) (fun _ _ _ _ _ _=>Lw (fun _ _=>rfl)),A04 Ax7 T Cj G6 Bb⟩
 have P7:Has l.prog w K mg base "is_part" ["shape","k","place","number"] 4 (Kx K):=⟨_,_,PySem.W.mg_of X G zq3r,zq2s,X6.binds (ps:=["shape","k","place","number"]) (fun _ _ _ _ _ _=>A36 (fun _ _ _ _=>rfl)),z9 X6 T Bb Et⟩
 have hcd_Growth:Bc5 l.prog w K mg base Ad ["self","prime"] [.int 2] 4 (Lf K Ad):=⟨_,_,[.int 2 tk_Growth__init__0],⟨mk_Growth,zq0g,zq09,kc_Growth⟩,Dd.binds (ps:=["self","prime"]) (dd:=[.int 2 tk_Growth__init__0]) (fun _ _ _ _ _ _ _ us hl=>by obtain⟨x,rfl⟩:∃ x,us=[x]:=List.length_eq_one_iff.mp (by simpa using hl);exact ⟨_,rfl,rfl⟩),.cons ⟨_,rfl⟩ (.nil),Ho Dd T Jq⟩
 have hc_Growth:HasC l.prog w K mg base Ad ["self","prime"] 4 (Lf K Ad):=⟨_,_,⟨mk_Growth,zq0g,zq09,kc_Growth⟩,Dd.binds (ps:=["self","prime"]) (dd:=[]) (fun _ _ _ _ _ _ _ us hl=>by obtain⟨x,y,rfl⟩:∃ x y,us=[x,y]:=Ba2 (by simpa using hl);exact ⟨_,rfl,rfl⟩),Ho Dd T Jq⟩
 have Js:Has l.prog w K mg base "_law_due_of" ["_law_shape","_law_prime","_law_papers"] 4 (Ye K):=⟨_,_,PySem.W.mg_of X G zq3g,zq2i,Tg.binds (ps:=["_law_shape","_law_prime","_law_papers"]) (fun _ _ _ _ _ _=>Nh (fun _ _ _=>rfl)),Zf Tg T G7 Iu⟩
 have Ev:Has l.prog w K mg base "is_chain" ["shape","k","thing"] 5 (Fc K):=⟨_,_,PySem.W.mg_of X G zq3e,zq2g,Te.binds (ps:=["shape","k","thing"]) (fun _ _ _ _ _ _=>Nh (fun _ _ _=>rfl)),Zd Te T P7⟩
 have Fx:HasM l.prog w K mg base Ad "grow" ["self","thing"] 5 (O4 K Ad):=⟨_,_,⟨zq1w,zq1b,zq0y⟩,Ma.binds (ps:=["self","thing"]) (fun _ _ _ _ _ _=>Lw (fun _ _=>rfl)),Rr Ma T Ir Dr Dq Al2 Cn⟩
 have By:Has l.prog w K mg base "is_chain_of_some_level" ["shape","thing","bound"] 6 (Fj K):=⟨_,_,PySem.W.mg_of X G zq03,zq00,C4.binds (ps:=["shape","thing","bound"]) (fun _ _ _ _ _ _=>Nh (fun _ _ _=>rfl)),Fs C4 T Ev⟩
 have M7:Has l.prog w K mg base "is_paper" ["shape","prime","place","thing"] 6 (O0 K):=⟨_,_,PySem.W.mg_of X G zq3d,zq2f,Td.binds (ps:=["shape","prime","place","thing"]) (fun _ _ _ _ _ _=>A36 (fun _ _ _ _=>rfl)),Zc Td T Ev Cj⟩
 have U8:Has l.prog w K mg base "border" ["shape","chain"] 7 (Me K):=⟨_,_,PySem.W.mg_of X G zq40,zq3h,t0.binds (ps:=["shape","chain"]) (fun _ _ _ _ _ _=>Lw (fun _ _=>rfl)),Ah7 t0 T By Dr⟩
 have Fy:Has l.prog w K mg base "growth_holds" ["shape","prime","papers"] 8 (O1 K):=⟨_,_,PySem.W.mg_of X G zq1f,zq0i,Kq.binds (ps:=["shape","prime","papers"]) (fun _ _ _ _ _ _=>Nh (fun _ _ _=>rfl)),Pj Kq T Cn U8 M7⟩
 exact A85 Bf7 T Is hcd_Growth hc_Growth M8 Js Br Fx Fy E5
theorem walk {l:PySem.W.OpenLaw}{q:Program}{loose:List Str}{XP:(Str->Option Value)->Heap->Prop}{YP:World->Heap->Prop}{d:DefRec}{K:Params->PySem.W.Frag} (hn:l.most=some 63) (hdf:d.params.defaults=[])
 (hY:∀ (w:World) (h:Heap),YP w h->(K w.params).In h)
 (F:∀ (w:World) (mg:Str->Option Value) (fa:Addr) (h:Heap),(K w.params).In h->h.Ns mainGlobals mg->mg d.name=some (.ref fa) →
   ∃ fd:FuncData,(∀ (s:Shared) (u:Value),BindsTo s fd ⟨[u],[]⟩ [("_law_script",u)])/\∀ base:Heap,(K w.params).In base->base.Ns mainGlobals mg->FnOk l.prog w (K w.params) mg base CX0 9 fa fd ["_law_script"] (j9 (K w.params))) :
 PySem.W.WalkO q loose XP YP l.row.toRowW d [] (fun f vs=>PySem.call f vs) :=
 L2.walk_of (n:=63) (k:=9) (x:="_law_script") (CX:=fun _=>CX0) (sp:=fun w=>j9 (K w.params)) hn (by decide) hdf ⟨rfl,by decide,by decide,rfl⟩ hY F (fun _ _ a ns hl _ hS=>⟨a,ns,rfl,hS,hl,fun _=>rfl⟩) fun _ _ _ _ _ z=>z
end Hb
namespace PySem.W.Fast
def tw91875319171766918:=0
def tw1012516815424780680:=0
def tw2985381821258983377:=0
def tw16659756834007121409:=0
def tw6057842084018526586:=0
def tw6649499017661629365:=0
def tw8934506078987418704:=0
def tw1387976686108286310:=0
def tw8709791945734458563:=0
def tw13607351674940626826:=0
def tw8330916214491908926:=0
def tw1237985670946286320:=0
def tw7219702499412437006:=0
def tw2833121897760819509:=0
def tw978694256146840878:=0
def tw11987383109578804421:=0
def tw15405613222150107654:=0
def tw12790090446538848491:=0
def tw2584989650159077653:=0
def tw10595528635694899615:=0
def tw1459486943987707436:=0
def tw3104419014865117832:=0
def tw16641576671794524412:=0
def tw8561685415878615603:=0
def tw2701432645936609471:=0
def tw12321804308495626165:=0
def tw10355637674858922878:=0
def tw14299596690984667587:=0
def tw8882233019698146377:=0
def tw12255867446946574324:=0
def tw5029406900924487640:=0
def tw9016953010827214600:=0
def tw12529334265372033335:=0
def tw1461508305581402948:=0
def tw17625654041294667998:=0
def tw874073635782343115:=0
def tw3512972812590003554:=0
def tw6189775128640413764:=0
def tw1492450969016355576:=0
def tw16631900182807156540:=0
def tw16641770401223943687:=0
def tw15868246537422289193:=0
def tw9953014633248992195:=0
def tw13744149834499622369:=0
def tw4362096176379779938:=0
def tw9086405547478797230:=0
def tw16938263982508645646:=0
def tw11556006688208528816:=0
def tw337413096510529974:=0
def tw8647977046659322774:=0
def tw6653188051744654634:=0
def tw11636070804053302821:=0
def tw5727136684073756151:=0
def tw3716658544581740776:=0
def tw11113558785876855561:=0
def tw17631515693346589175:=0
def tw2179709886561673515:=0
def tw16243295381001071252:=0
def tw13053065407795274580:=0
def tw8313458519454474424:=0
def tw8097054801920889972:=0
def tw14953524761476216059:=0
def tw5175105280736160070:=0
def tw9989584761764002837:=0
def tw8840063507942650395:=0
def tw6639336525247408514:=0
def tw10011726220108047922:=0
def tw15244741974502945547:=0
def tw16469317016969097030:=0
def tw5212206775374563730:=0
def tw17154761175490466842:=0
def tw1211645091526536925:=0
def tw15855569351625797162:=0
def tw12037344672324816590:=0
def tw10114198450619289933:=0
def tw10316689395848566399:=0
def tw11471606438483593702:=0
def tw17748998890007378578:=0
def tw6849810220108375151:=0
def tw11575541957792084438:=0
def tw17482440780778726766:=0
def tw6818850605037867829:=0
def tw2230408806556839425:=0
def tw11602175379953537104:=0
def tw2375566415449367955:=0
def tw14022330241295666307:=0
def tw11404188638349959290:=0
def tw5110664555266742881:=0
def tw4258052998834450761:=0
def tw17679651018309628586:=0
def tw5011997306780847177:=0
def tw15964333094282077812:=0
def tw13787865822451039101:=0
def tw2764118112557651762:=0
def tw3981921702589357316:=0
def tw8815316189464728343:=0
def tw15743593623403604947:=0
def tw10020866442278059282:=0
def tw18223905173634811564:=0
def tw9878453117830413583:=0
def tw3183967543641556354:=0
def tw10249680200180369837:=0
def tw10654785200114776384:=0
def tw1268467314215640963:=0
def tw1255322004053955346:=0
def tw18374913739870891632:=0
def tw11638546230900091157:=0
def tw3307207797126049965:=0
def tw14224510217305905675:=0
def tw11574958912402352745:=0
def tw12648705267184240786:=0
def tw9911088326388858455:=0
def tw5303260595693648936:=0
def tw4899963820918054754:=0
def tw18196134209968997780:=0
def tw8044956323618995188:=0
def tw12579522210551214303:=0
def tw17830764570243800921:=0
def tw9670703958457504521:=0
def tw2291870664853830217:=0
def tw17834034076077215364:=0
def tw15061895627284135828:=0
def tw14249862723931225939:=0
def tw9376222964354182697:=0
def tw10270871118657108903:=0
def tw5925185671902220952:=0
def tw16191070435195011279:=0
def tw15833081179218608861:=0
def tw982962016290216468:=0
def tw4773379365652461474:=0
def tw8683851691418529691:=0
def tw17188354033856827004:=0
def tw5898078026103110645:=0
def tw2652496116873987421:=0
def tw15052459387505280480:=0
def tw10647974836967720905:=0
def tw5428075870189231025:=0
def tw7283950792172098844:=0
def tw791306058684730686:=0
def tw10920096749511820926:=0
def tw16954247809617496665:=0
def tw17317392908695847176:=0
def tw16695301941079373769:=0
def tw5984969073879051795:=0
def tw17643900859640680856:=0
def tw8580196270180378398:=0
def tw4711023504629110994:=0
def tw18280218970651418981:=0
def tw7498568694995025698:=0
def tw9098168365461715958:=0
def tw16068349939026580131:=0
def tw4246075289624511906:=0
def tw5718096101294522093:=0
def tw2046880093391541246:=0
def tw2802861348605374098:=0
def tw8856497652859958029:=0
def tw5117058119262350471:=0
def tw17457144427595960652:=0
def tw9946726649690911727:=0
def tw5488056305630243837:=0
def tw9411108321715791836:=0
def tw1667515710257356252:=0
def tw2186770139823091062:=0
def tw12048508660182927340:=0
def tw17070654030796532429:=0
def tw3961173681724926613:=0
def tw2884131981369658108:=0
def tw15977157557982164877:=0
def tw5397848947388289854:=0
def tw7161959803332131160:=0
def tw17846364479699119762:=0
def tw15901210279851775140:=0
def tw17519784040149204403:=0
def tw9570489924903680380:=0
def tw12212150998406129374:=0
def tw7208396235314591648:=0
def tw16488929427874457344:=0
def tw11880152172950532782:=0
def tw8697391829135194934:=0
def tw8067055370509201338:=0
def tw10935774114701919223:=0
def tw16835579270405309507:=0
def tw6929585240203821325:=0
def tw1512040317046837333:=0
def tw6774308679167492580:=0
def tw17522246530992423196:=0
def tw2509912410045446279:=0
def tw14801627292747839200:=0
def tw16023093632324654889:=0
def tw1763323438478223596:=0
def tw15083964534411525443:=0
def tw16802247893697453758:=0
def tw17813587020235342020:=0
def tw1351345725256040742:=0
def tw3027648830308055798:=0
def tw17619931326861766405:=0
def tw12051236851097804396:=0
def tw15361092126280297873:=0
def tw12186675534062483638:=0
def tw278378006528497455:=0
def tw8436095862076677872:=0
def tw11044266106511481284:=0
def tw3117238825877233869:=0
def tw9022371030670567518:=0
def tw11670095442692701591:=0
def tw8750427397360442725:=0
def tw14644805213222123144:=0
def tw9142402349777083379:=0
def tw1226045810646418613:=0
def tw14040294218298911677:=0
def tw4993767096654306314:=0
def tw13626431490055442878:=0
def tw12874884645602467602:=0
def tw15492489289403088827:=0
def tw2235603859967598533:=0
def tw13565435435344386757:=0
def tw17081067032988676387:=0
def tw15969478590479900112:=0
def tw14443148605798051429:=0
def tw11869301438590679032:=0
def tw11408299893291882329:=0
def tw10763301048446567297:=0
def tw15946413609782524789:=0
def tw4970610927453939843:=0
def tw3388387319196318180:=0
def tw14417028948560259718:=0
def tw866796826823465744:=0
def tw13606893486187305540:=0
def tw14805293121405508277:=0
def tw10148279855313043991:=0
def tw2296066897570489189:=0
def tw17070205354602233493:=0
def tw10860767895971590225:=0
def tw9653962473613158311:=0
def tw11343085990731199076:=0
def tw1943335495278140163:=0
def tw9995937610137845729:=0
def tw4767904859807969387:=0
def tw1838880042091460525:=0
def tw2187967932843907484:=0
def tw17198562283033415785:=0
def tw5146741833012449657:=0
def tw16499358106428823884:=0
def tw18238472661327249035:=0
def tw14136514983625491439:=0
def tw6486562177861997618:=0
def tw5993422999807760109:=0
def tw12417002638375566957:=0
def tw15148873069780044976:=0
def tw3361361102458851494:=0
def tw18035641714490103050:=0
def tw16257655667258013867:=0
def tw4161528753161391773:=0
def tw10971325411098447936:=0
def tw4436745977656701223:=0
def tw1348470099835012475:=0
def tw1065801228511957141:=0
def tw637832275672721135:=0
def tw12936117498853224963:=0
def tw2987615425673147072:=0
def tw5970789470611837361:=0
def tw7957088701043417575:=0
def tw14915246437748468940:=0
def tw17783855451854268093:=0
def tw4606137805417538155:=0
def tw13031537239600121728:=0
def tw6095281646395918805:=0
def tw15167757629010505524:=0
def tw7212167310181391221:=0
def tw10803953849213052633:=0
def tw9667693862225393658:=0
def tw15434142873248006304:=0
def tw9303902063263403893:=0
def tw17765324550024696414:=0
def tw12723281247131499266:=0
def tw13965195233841138347:=0
def tw9462078601412364456:=0
def tw9805029023216673021:=0
def tw5252749412072860542:=0
def tw2972542279887953077:=0
def tw16966938816848472796:=0
def tw16392683444939378989:=0
def tw2932177893590646799:=0
def tw6094649551870018505:=0
def tw2650617804861698098:=0
def tw1853984008125382631:=0
def tw8116334047527516285:=0
def tw16280920685738548264:=0
def tw218110006291699033:=0
def tw17990957627087148194:=0
def tw17108477461071135359:=0
def tw13216356947925530586:=0
def tw5736400736496013790:=0
def tw12285895206860126284:=0
def tw12957600820572181301:=0
def tw1975862467561202483:=0
def tw3081826761400521079:=0
def tw3213747117588408519:=0
def tw192287199330406952:=0
def tw249348213699384970:=0
def tw15483527594118574259:=0
def tw3983166246423443997:=0
def tw12407525522307004564:=0
def tw14487435711314391068:=0
def tw13999152211983672342:=0
def tw423517527471630232:=0
def tw16143234641360559010:=0
def tw3011001444052392133:=0
def tw2392026458171832691:=0
def tw12758640510071372251:=0
def tw3044309453977762388:=0
def tw14896391292965997141:=0
def tw4721613421533563299:=0
def tw2545624558553330136:=0
def tw5837225008681519908:=0
def tw4712850835573381994:=0
def tw16819583016654562071:=0
def tw1545150607643410871:=0
def tw14591146986364597381:=0
def tw2553956959875825276:=0
def tw3751986676418356468:=0
def tw14231891869048645472:=0
def tw15647623860542752113:=0
def tw10576748658077655867:=0
def tw1357155680485161843:=0
def tw14509715450955570929:=0
def tw16673031515518193184:=0
def tw8759710793317301019:=0
def tw1789099491354073534:=0
def tw2140347017145987292:=0
def tw5092509920031015098:=0
def tw7971837367520897210:=0
def tw16969625683134941725:=0
def tw12290162388647301078:=0
def tw714647140985409887:=0
def tw3495600992738332324:=0
def tw16868452283007769774:=0
def tw16648795196947239034:=0
def tw14884114581851481512:=0
def tw2914504487443738185:=0
def tw17734515440738485253:=0
def tw15705639911760641294:=0
def tw802737401977269123:=0
def tw17883077997739723139:=0
def tw15652145635095545495:=0
def tw6666900091741588172:=0
def tw9411026780804376972:=0
def tw12653064546844287976:=0
def tw6171827103544593792:=0
def tw6650608608296675742:=0
def tw5993831389983067476:=0
def tw6115983807306979111:=0
def tw4229011046836770074:=0
def tw16072391867819310803:=0
def tw16913356454045536764:=0
def tw2720690533699499957:=0
def tw2353569796661440504:=0
def tw428733322570545207:=0
def tw5324574929222886816:=0
def tw9336715648468045468:=0
def tw2292396894725884715:=0
def tw9700502844816390209:=0
def tw8299465259261801374:=0
def tw11186358197905734667:=0
def tw12806748402113492565:=0
def tw5990594339634436964:=0
def tw905344497982596038:=0
def tw1648240649870373847:=0
def tw4456026953265992222:=0
def tw731124092220257044:=0
def tw13773790323968379740:=0
def tw17185662663041054281:=0
def tw4388257993846582671:=0
def tw4584347090194283911:=0
def tw8855527534099930507:=0
def tw13875038225314285971:=0
def tw1019026688164923427:=0
def tw16164153421296487555:=0
def tw4492543233777320608:=0
def tw5544478639416828585:=0
def tw4252686649078643231:=0
def tw8694751245923307713:=0
def tw2916674255220359031:=0
def tw13188563544317151299:=0
def tw1563518480439395331:=0
def tw17140602676749492005:=0
def tw14514302390268568218:=0
def tw17583574383939937775:=0
def tw3716691752023658014:=0
def tw4540424867397282896:=0
def tw13783010252172901199:=0
def tw17738866245068812629:=0
def tw750171359673813488:=0
def tw14512658498407034000:=0
def tw5335603970539723808:=0
def tw2353742849954214178:=0
def tw1512333219628733056:=0
def tw1142425744182195791:=0
def tw16917869363413634033:=0
def tw12434831937184218247:=0
def tw4661707430701970726:=0
def tw9179945463633718662:=0
def tw14056478742125807209:=0
def tw16263290455580274569:=0
def tw15277145774028106336:=0
def tw10368253986561904018:=0
def tw1770708386720634435:=0
def tw9460724107637599804:=0
def tw3179159249778270799:=0
def tw12393310366086352325:=0
def tw12201844202812477597:=0
def tw1289800983880238303:=0
def tw3785872798206192333:=0
def tw17421509970721510060:=0
def tw11048255271640970178:=0
def tw9225155521860462389:=0
def tw14752816305953748560:=0
def tw985429035086426328:=0
def tw7250958269250719491:=0
def tw1561265636382308032:=0
def tw1693207435209175230:=0
def tw9444624612323748886:=0
def tw13304853552352086577:=0
def tw4285608433082607427:=0
def tw9933391683953588328:=0
def tw16635344909068145237:=0
def tw17162897388517252442:=0
def tw14840758097105335116:=0
def tw18252677832136816460:=0
def tw9719411347876072030:=0
def tw8045443813398670523:=0
def tw3278078848060175257:=0
def tw209862346383267220:=0
def tw798396546193751479:=0
def tw12652630963288515714:=0
def tw10422868399715292108:=0
def tw9207508062726011843:=0
def tw2375905411497038123:=0
def tw7500525312444204217:=0
def tw2461404094870082574:=0
def tw1604240360519219012:=0
def tw4225179709734010309:=0
def tw12647279709970257050:=0
def tw3656148349862492164:=0
def tw15991407899334257096:=0
def tw7264030752690109606:=0
def tw14321427027836542571:=0
def tw4828998255776861843:=0
def tw6539178609418750865:=0
def tw6209760776108144813:=0
def tw11840561258851359277:=0
def tw3248179836087564481:=0
def tw4650853841164939196:=0
def tw13119693429365551414:=0
end PySem.W.Fast
open PySem PySem.W PyProof.Rows
set_option maxRecDepth 100000 in
set_option maxHeartbeats 0 in
theorem PySem.Challenge.cw_holebook_k69_a_growth_looked_at_holds : PySem.Challenge.rw_holebook_k69_a_growth_looked_at.Holds := by
 w_on;o_law;k_head;(case hw=>w_witness2)
 k_fill
 refine Hb.walk (l:=PySem.Challenge.rw_holebook_k69_a_growth_looked_at) rfl rfl (fun w h Y=>PySem.W.kIn_of Y) ?F
 case F =>
  intro w mg fa h KX G hmg
  refine' Hb.all_mk KX G hmg ?ac_Growth ?zq3b ?zq2x ?zq34 ?zq2d ?zq0s ?zq0m ?zq0p ?zq06 ?zq3a ?zq2w ?zq33 ?zq2c ?zq1u ?zq1j ?zq1q ?zq0w ?zq41 ?zq3w ?zq3z ?zq3i ?zq44 ?zq42 ?zq43 ?zq3x ?zq27 ?zq1x ?zq22 ?zq13 ?zq3s ?zq3k ?zq3o ?zq2t ?zq3t ?zq3l ?zq3p ?zq2u ?zq3u ?zq3m ?zq3q ?zq2v ?zq0f ?zq0b ?zq0d ?zq05 ?zq2r ?zq2l ?zq2o ?zq1o ?zq2a ?zq20 ?zq25 ?zq16 ?zq2q ?zq2k ?zq2n ?zq1n ?zq0t ?zq0n ?zq0q ?zq07 ?zq4b ?zq47 ?zq49 ?zq45 ?zq2p ?zq2j ?zq2m ?zq1m ?zq1t ?zq1i ?zq1p ?zq0v ?zq2b ?zq21 ?zq26 ?zq17 ?zq1v ?zq1k ?zq1r ?zq0x ?zq1g ?zq19 ?zq1d ?zq0j ?zq3f ?zq31 ?zq38 ?zq2h ?zq0e ?zq0a ?zq0c ?zq04 ?zq3c ?zq2y ?zq35 ?zq2e ?zq0u ?zq0h ?zq0o ?zq0r ?zq08 ?zq1h ?zq11 ?zq1a ?zq1e ?zq0k ?zq28 ?zq1y ?zq23 ?zq14 ?zq29 ?zq1z ?zq24 ?zq15 ?zq4c ?zq48 ?zq4a ?zq46 ?zq3r ?zq3j ?zq3n ?zq2s ?zq0g ?zq09 ?zq0z ?zq0l ?zq12 ?zq10 ?zq3g ?zq32 ?zq39 ?zq2i ?zq3e ?zq30 ?zq37 ?zq2g ?zq1w ?zq1b ?zq1l ?zq1s ?zq0y ?zq03 ?zq01 ?zq02 ?zq00 ?zq3d ?zq2z ?zq36 ?zq2f ?zq40 ?zq3v ?zq3y ?zq3h ?zq1f ?zq18 ?zq1c ?zq0i ?zq4g ?zq4d ?zq4f ?zq4e ?mk_Growth ?kc_Growth ?pg_Growth ?hd_Growth ?po_Growth ?sa_Growth ?na_Growth_prime ?na_Growth_pieces ?na_Growth_sheets ?na_Growth_edges ?na_Growth_enders ?ac_FACE_COUNTS ?lc_FACE_COUNTS ?aq_MOST_PIECES ?aq_PRIME_BOUND ?aq_LEVELS ?z_isinstance ?z_int ?z_bool ?z_tuple ?z_zip ?z_max ?z_len ?z_all ?z_range ?z_dict ?z_any ?z_enumerate ?z_list ?z_set ?z_sorted
  (case ac_Growth=>k_is);(case ac_FACE_COUNTS=>k_is);(case zq3b=>k_is);(case zq2x=>k_is)
  (case zq34=>k_is);(case zq2d=>k_is);(case zq0s=>k_is);(case zq0m=>k_is)
  (case zq0p=>k_is);(case zq06=>k_is);(case zq3a=>k_is);(case zq2w=>k_is)
  (case zq33=>k_is);(case zq2c=>k_is);(case zq1u=>k_is);(case zq1j=>k_is)
  (case zq1q=>k_is);(case zq0w=>k_is);(case zq41=>k_is);(case zq3w=>k_is)
  (case zq3z=>k_is);(case zq3i=>k_is);(case zq44=>k_is);(case zq42=>k_is)
  (case zq43=>k_is);(case zq3x=>k_is);(case zq27=>k_is);(case zq1x=>k_is)
  (case zq22=>k_is);(case zq13=>k_is);(case zq3s=>k_is);(case zq3k=>k_is)
  (case zq3o=>k_is);(case zq2t=>k_is);(case zq3t=>k_is);(case zq3l=>k_is)
  (case zq3p=>k_is);(case zq2u=>k_is);(case zq3u=>k_is);(case zq3m=>k_is)
  (case zq3q=>k_is);(case zq2v=>k_is);(case zq0f=>k_is);(case zq0b=>k_is)
  (case zq0d=>k_is);(case zq05=>k_is);(case zq2r=>k_is);(case zq2l=>k_is)
  (case zq2o=>k_is);(case zq1o=>k_is);(case zq2a=>k_is);(case zq20=>k_is)
  (case zq25=>k_is);(case zq16=>k_is);(case zq2q=>k_is);(case zq2k=>k_is)
  (case zq2n=>k_is);(case zq1n=>k_is);(case zq0t=>k_is);(case zq0n=>k_is)
  (case zq0q=>k_is);(case zq07=>k_is);(case zq4b=>k_is);(case zq47=>k_is)
  (case zq49=>k_is);(case zq45=>k_is);(case zq2p=>k_is);(case zq2j=>k_is)
  (case zq2m=>k_is);(case zq1m=>k_is);(case zq1t=>k_is);(case zq1i=>k_is)
  (case zq1p=>k_is);(case zq0v=>k_is);(case zq2b=>k_is);(case zq21=>k_is)
  (case zq26=>k_is);(case zq17=>k_is);(case zq1v=>k_is);(case zq1k=>k_is)
  (case zq1r=>k_is);(case zq0x=>k_is);(case zq1g=>k_is);(case zq19=>k_is)
  (case zq1d=>k_is);(case zq0j=>k_is);(case zq3f=>k_is);(case zq31=>k_is)
  (case zq38=>k_is);(case zq2h=>k_is);(case zq0e=>k_is);(case zq0a=>k_is)
  (case zq0c=>k_is);(case zq04=>k_is);(case zq3c=>k_is);(case zq2y=>k_is)
  (case zq35=>k_is);(case zq2e=>k_is);(case zq0u=>k_is);(case zq0h=>k_is)
  (case zq0o=>k_is);(case zq0r=>k_is);(case zq08=>k_is);(case zq1h=>k_is)
  (case zq11=>k_is);(case zq1a=>k_is);(case zq1e=>k_is);(case zq0k=>k_is)
  (case zq28=>k_is);(case zq1y=>k_is);(case zq23=>k_is);(case zq14=>k_is)
  (case zq29=>k_is);(case zq1z=>k_is);(case zq24=>k_is);(case zq15=>k_is)
  (case zq4c=>k_is);(case zq48=>k_is);(case zq4a=>k_is);(case zq46=>k_is)
  (case zq3r=>k_is);(case zq3j=>k_is);(case zq3n=>k_is);(case zq2s=>k_is)
  (case zq0g=>k_is);(case zq09=>k_is);(case zq0z=>k_is);(case zq0l=>k_is)
  (case zq12=>k_is);(case zq10=>k_is);(case zq3g=>k_is);(case zq32=>k_is)
  (case zq39=>k_is);(case zq2i=>k_is);(case zq3e=>k_is);(case zq30=>k_is)
  (case zq37=>k_is);(case zq2g=>k_is);(case zq1w=>k_is);(case zq1b=>k_is)
  (case zq1l=>k_is);(case zq1s=>k_is);(case zq0y=>k_is);(case zq03=>k_is)
  (case zq01=>k_is);(case zq02=>k_is);(case zq00=>k_is);(case zq3d=>k_is)
  (case zq2z=>k_is);(case zq36=>k_is);(case zq2f=>k_is);(case zq40=>k_is)
  (case zq3v=>k_is);(case zq3y=>k_is);(case zq3h=>k_is);(case zq1f=>k_is)
  (case zq18=>k_is);(case zq1c=>k_is);(case zq0i=>k_is);(case zq4g=>k_is)
  (case zq4d=>k_is);(case zq4f=>k_is);(case zq4e=>k_is);(case mk_Growth=>k_is)
  (case kc_Growth=>k_is);(case pg_Growth=>k_is);(case hd_Growth=>k_is);(case po_Growth=>k_is)
  (case sa_Growth=>k_is);(case na_Growth_prime=>k_is);(case na_Growth_pieces=>k_is);(case na_Growth_sheets=>k_is)
  (case na_Growth_edges=>k_is);(case na_Growth_enders=>k_is);(case lc_FACE_COUNTS=>k_is);(case aq_MOST_PIECES=>k_is)
  (case aq_PRIME_BOUND=>k_is);(case aq_LEVELS=>k_is);(case z_isinstance=>k_is);(case z_int=>k_is)
  (case z_bool=>k_is);(case z_tuple=>k_is);(case z_zip=>k_is);(case z_max=>k_is)
  (case z_len=>k_is);(case z_all=>k_is);(case z_range=>k_is);(case z_dict=>k_is)
  (case z_any=>k_is);(case z_enumerate=>k_is);(case z_list=>k_is);(case z_set=>k_is)
  (case z_sorted=>k_is)