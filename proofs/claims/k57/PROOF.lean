import PyProof.Rows.All
import Wide.All
import OpenK.AllK
import Wide.FinOn
import Lean
import PyProof.EqAt
import PyProof.EqKinds
import PyProof.TupleCall
import PySem.Challenge.RW_holebook_k57_stages_asked
set_option linter.all false
set_option Elab.async false
set_option maxRecDepth 100000
set_option maxHeartbeats 4000000
noncomputable section
namespace L2
open PySem PySem.Spec PyProof.Rows
abbrev Key:=Sum Int Str
def An5:Key->Value->Bool
 | .inl k,v=>Value.isInt k v
 | .inr x,v=>Value.isStrOf x v
def keyH (w:World):Key->Int
 | .inl k=>hashInt k
 | .inr x=>hashStr w x
theorem Ch:∀{k:Key}{v:Value},An5 k v=true->(∃ i t,k=Sum.inl i/\v=Value.int i t)\/(∃ x t,k=Sum.inr x/\v=Value.str x t)
 | .inl i,v,h=>by
   obtain⟨t,e⟩:=Value.isInt_shape (k:=i) (v:=v) h
   exact .inl ⟨i,t,rfl,e⟩
 | .inr x,v,h=>by
   obtain⟨t,e⟩:=Value.isStrOf_shape (x:=x) (v:=v) h
   exact .inr ⟨x,t,rfl,e⟩
theorem Az5 (i:Int) (t:Tok):An5 (.inl i) (.int i t)=true:=by simp [An5,Value.isInt]
theorem Az4 (x:Str) (t:Tok):An5 (.inr x) (.str x t)=true:=by simp [An5,Value.isStrOf]
theorem Bt1 (a b:Int):decide ((Sum.inl a:Key)=Sum.inl b)=(a==b):=by
 by_cases e:a=b
 . subst e;simp
 . have h:¬(Sum.inl a:Key)=Sum.inl b:=fun q=>e (Sum.inl.inj q)
   rw [decide_eq_false h]
   exact (beq_eq_false_iff_ne.mpr e).symm
theorem Bs8 (a b:Str):decide ((Sum.inr a:Key)=Sum.inr b)=decide (a=b):=by
 by_cases e:a=b
 . subst e;simp
 . have h:¬(Sum.inr a:Key)=Sum.inr b:=fun q=>e (Sum.inr.inj q)
   rw [decide_eq_false h,decide_eq_false e]
theorem Bt0 (a:Int) (b:Str):decide ((Sum.inl a:Key)=Sum.inr b)=false:=decide_eq_false (fun q=>nomatch q)
theorem Bs9 (a:Str) (b:Int):decide ((Sum.inr a:Key)=Sum.inl b)=false:=decide_eq_false (fun q=>nomatch q)
def mixKind (prog:Program) (w:World):PySem.KeyKind prog w Key where
 is:=An5
 hash:=keyH w
 inj:=fun v a b ha hb=>by
  rcases Ch ha with ⟨i,t,rfl,rfl⟩|⟨x,t,rfl,rfl⟩
  . rcases Ch hb with ⟨j,u,rfl,e⟩|⟨y,u,rfl,e⟩
    . injection e with e1 _;rw [e1]
    . exact nomatch e
  . rcases Ch hb with ⟨j,u,rfl,e⟩|⟨y,u,rfl,e⟩
    . exact nomatch e
    . injection e with e1 _;rw [e1]
 byValue:=fun k v h=>by
  rcases Ch h with ⟨i,t,rfl,rfl⟩|⟨x,t,rfl,rfl⟩<;>rfl
 pyHash:=fun hv h=>by
  rcases Ch hv with ⟨i,t,rfl,rfl⟩|⟨x,t,rfl,rfl⟩
  . exact wpAny_pyHash_int h
  . exact wpAny_pyHash_str h
 eqBool:=fun hu hv h=>by
  rcases Ch hu with ⟨i,t,rfl,rfl⟩|⟨x,t,rfl,rfl⟩
  . rcases Ch hv with ⟨j,u,rfl,rfl⟩|⟨y,u,rfl,rfl⟩
    . rw [Bt1] at h;exact wpAny_eqBool_int h
    . rw [Bt0] at h;exact SeqAt.EqAt.int_str i t y u _ _ _ _ h
  . rcases Ch hv with ⟨j,u,rfl,rfl⟩|⟨y,u,rfl,rfl⟩
    . rw [Bs9] at h;exact SeqAt.EqAt.str_int x t j u _ _ _ _ h
    . rw [Bs8] at h;exact wpAny_eqBool_str h
 «strs»:=fun k x t v h=>by
  rcases Ch h with ⟨i,u,rfl,e⟩|⟨y,u,rfl,e⟩
  . exact nomatch e
  . injection e with e1 _
    subst e1
    cases v<;>rfl
theorem Aa1 (prog:Program) (w:World) (i:Int) (t:Tok):(mixKind prog w).is (.inl i) (.int i t)=true:=Az5 i t
theorem Aa0 (prog:Program) (w:World) (x:Str) (t:Tok):(mixKind prog w).is (.inr x) (.str x t)=true:=Az4 x t
end L2
namespace L2
open PySem PySem.Spec PyProof.Rows
inductive V where
 | non | bl (b:Bool) | int (i:Int) | str (x:Str) | byt (b:Array UInt8) | flt (b:UInt64) | ref (a:Addr) | ty (n:String)
 deriving DecidableEq
def RelV:V->Value->Prop
 | .non,u=>u=Value.none
 | .bl b,u=>u=Value.bool b
 | .int i,u=>∃ t,u=Value.int i t
 | .str x,u=>∃ t,u=Value.str x t
 | .byt b,u=>∃ t,u=Value.bytes b t
 | .flt b,u=>∃ t,u=Value.float b t
 | .ref a,u=>u=Value.ref a
 | .ty n,u=>u=Value.type n
abbrev Vals:List V->List Value->Prop:=Paired RelV
theorem Vals.length {xs:List V}{us:List Value} (r:Vals xs us):xs.length=us.length:=Paired.length r
theorem Vals.get:∀{xs:List V}{us:List Value}{i:Nat}{x:V},Vals xs us->xs[i]?=some x->∃ u,us[i]?=some u/\RelV x u
 | _,_,_,_,.nil,e=>by simp at e
 | _,_,0,_,.cons r _,e=>by simp at e;subst e;exact ⟨_,rfl,r⟩
 | _,_,i+1,x,.cons _ t,e=>by
   obtain⟨u,h1,h2⟩:=Vals.get (i:=i) (x:=x) t (by simpa using e)
   exact ⟨u,by simpa using h1,h2⟩
theorem Vals.append:∀{xs ys:List V}{us ws:List Value},Vals xs us->Vals ys ws->Vals (xs++ys) (us++ws)
 | _,_,_,_,.nil,s=>s
 | _,_,_,_,.cons r t,s=>.cons r (Vals.append t s)
theorem Vals.take:∀{xs:List V}{us:List Value} (n:Nat),Vals xs us->Vals (xs.take n) (us.take n)
 | _,_,0,_=>.nil
 | _,_,_+1,.nil=>.nil
 | _,_,n+1,.cons r t=>.cons r (Vals.take n t)
theorem Vals.drop:∀{xs:List V}{us:List Value} (n:Nat),Vals xs us->Vals (xs.drop n) (us.drop n)
 | _,_,0,r=>r
 | _,_,_+1,.nil=>.nil
 | _,_,n+1,.cons _ t=>Vals.drop n t
def RelO:Option V->Option Value->Prop
 | some v,some u=>RelV v u
 | none,none=>True
 | _,_=>False
def KV {κ:Type}:List (κ × V)->List (κ × Value)->Prop:=Paired fun (p:κ × V) (q:κ × Value)=>p.1=q.1/\RelV p.2 q.2
def kV:Key->V
 | .inl i=>.int i
 | .inr x=>.str x
inductive HO where
 | lst (xs:List V)
 | tup (xs:List V)
 | dK (kvs:List (Key × V)) | dT (kvs:List (List Key × V))
 | set (S:Int->Bool) (n:Nat)
 | ins (C dx:Addr) (fs:List (Str × V))
 | own (x:Addr)
 | xd (fs:List (Str × V))
 | met (f x:Addr)
 | rng (lo hi:Int)
 | frz (o:Obj) (u:HO)
 | tbl (ps:Array Value)
 | ext (φ:Heap->Prop)
abbrev Hp:=Addr->Option HO
def upd (H:Hp) (a:Addr) (o:HO):Hp:=fun b=>if b=a then some o else H b
theorem Ae {H:Hp}{a:Addr}{o:HO}:upd H a o a=some o:=by unfold upd;rw [if_pos rfl]
theorem An {H:Hp}{a b:Addr}{o:HO} (h:b≠a):upd H a o b=H b:=by unfold upd;rw [if_neg h]
theorem Hw {H:Hp}{a b:Addr}{o u:HO} (h:H a=some o) (h':H b=some u) (d:o≠u):a≠b:=by
 intro e;subst e;rw [h] at h';exact d (Option.some.inj h')
theorem A8 {H:Hp}{a b:Addr}{o:HO} (h:H a=some o) (h':H b=none):a≠b:=by
 intro e;subst e;rw [h] at h';cases h'
def Lm (h:Heap) (a:Addr) (items:Array Value):Prop:=∃ o,h.get? a=some o/\o.cls=.type "tuple"/\o.dict=none/\∃ n,o.data=.seq items n
theorem Lm.tup {h:Heap}{a:Addr}{items:Array Value} (x:Lm h a items):IsTup h a items:=let ⟨o,e,c,_,d⟩:=x;⟨o,e,c,d⟩
theorem Lm.lt {h:Heap}{a:Addr}{items:Array Value} (x:Lm h a items):a<h.objs.size:=x.tup.lt
theorem Lm.new (h:Heap) (items:Array Value):Lm (h.push { cls:=.type "tuple",data:=.seq items }) h.objs.size items:=⟨_,Heap.get?_push_size _ rfl,rfl,rfl,_,rfl⟩
section
variable (P:Program) (w:World)
def ObjOk (H:Hp) (h:Heap) (a:Addr):HO->Prop
 | .lst xs=>xs.length<=sizeLine/\∃ (its:List Value) (n:Nat),Vals xs its/\h.get? a=some { cls:=.type "list",data:=.seq its.toArray n }
 | .tup xs=>xs.length<=sizeLine/\∃ its:List Value,Vals xs its/\Lm h a its.toArray
 | .dK kvs=>kvs.length<=sizeLine/\(a==sysModules)=false/\∃ vs,KV kvs vs/\h.DictOf (mixKind P w) a vs
 | .dT kvs=>kvs.length<=sizeLine/\(a==sysModules)=false/\∃ xs:List (List Key × Addr × Value),
    Paired (fun (p:List Key × V) (q:List Key × Addr × Value)=>p.1=q.1/\H q.2.1=some (.tup (p.1.map kV))/\RelV p.2 q.2.2) kvs xs ∧
    ∃ o es ep,h.get? a=some o/\o.ExactDict/\o.data=.dict es ep/\es.toList=xs.map (entryOfKey (tupleKind (mixKind P w)))/\(xs.map (·.1)).Nodup
 | .set S n=>h.SetOf (intKind P w) a S n
 | .ins C dx fs=>H dx=some (.own a)/\fs.length<=1000/\dx≠a/\h.get? a=some (PySem.W.instObj C dx) ∧
    ∃ mA,h.Ns1 dx mA/\(∀ f,RelO (fs.lookup f) (mA f))/\PySem.Within mA (fs.map (·.1))
 | .own _=>∃ o,h.get? a=some o
 | .xd fs=>∃ mA,h.Ns1 a mA/\∀ f,RelO (fs.lookup f) (mA f)
 | .rng lo hi=>∃ t u v,h.get? a=some { cls:=.type "range",data:=.fields #[.int lo t,.int hi u,.int 1 v] }
 | .frz o u=>h.get? a=some o/\ObjOk H h a u
 | .tbl ps=>h.get? a=some { cls:=.none,data:=.fields ps }
 | .met f x=>h.get? a=some (PySem.W.methodObj (.ref f) (.ref x))
 | .ext φ=>φ h/\(∃ o,h.get? a=some o)/\∀ h1 h2:Heap,φ h1->(∀ o,h1.get? a=some o->h2.get? a=some o)->φ h2
def HOk (H:Hp) (h:Heap):Prop:=∀ a o,H a=some o->ObjOk P w H h a o
end
section
variable {P:Program}{w:World}{H H':Hp}{h h':Heap}{a:Addr}{o:HO}
theorem ObjOk.lt (x:ObjOk P w H h a o):a<h.objs.size:=by
 cases o with
 | lst xs=>obtain⟨_,_,_,_,e⟩:=x;exact Heap.lt_size e
 | tup xs=>obtain⟨_,_,_,p⟩:=x;exact p.lt
 | dK kvs=>obtain⟨_,_,_,_,o,_,_,e,_⟩:=x;exact Heap.lt_size e
 | dT kvs=>obtain⟨_,_,_,_,o,_,_,e,_⟩:=x;exact Heap.lt_size e
 | set S n=>obtain⟨o,_,_,_,e,_⟩:=x;exact Heap.lt_size e
 | ins C dx fs=>obtain⟨_,_,_,e,_⟩:=x;exact Heap.lt_size e
 | own y=>obtain⟨_,e⟩:=x;exact Heap.lt_size e
 | xd fs=>obtain⟨_,⟨_,_,_,e,_⟩,_⟩:=x;exact Heap.lt_size e
 | rng lo hi=>obtain⟨_,_,_,e⟩:=x;exact Heap.lt_size e
 | frz ob u=>obtain⟨e,_⟩:=x;exact Heap.lt_size e
 | tbl ps=>exact Heap.lt_size (show h.get? a=some _ from x)
 | met f y=>exact Heap.lt_size (show h.get? a=some _ from x)
 | ext φ=>obtain⟨_,⟨_,e⟩,_⟩:=x;exact Heap.lt_size e
theorem Paired.mapP {α β:Type}{F G:α->β->Prop}:∀{l₁:List α}{l₂:List β},Paired F l₁ l₂->(∀ a b,F a b->G a b)->Paired G l₁ l₂
 | _,_,.nil,_=>.nil
 | _,_,.cons r t,f=>.cons (f _ _ r) (Paired.mapP t f)
theorem ObjOk.stay (x:ObjOk P w H h a o) (k:∀ b u,(b=a\/H b=some (.own a))->h.get? b=some u->h'.get? b=some u)
 (ho:∀ b,H b=some (.own a)->H' b=some (.own a)) (ht:∀ b xs,H b=some (.tup xs)->H' b=some (.tup xs)):ObjOk P w H' h' a o:=by
 induction o with
 | lst xs=>obtain⟨z,its,n,r,e⟩:=x;exact ⟨z,its,n,r,k _ _ (.inl rfl) e⟩
 | tup xs=>obtain⟨z,its,r,ob,e,c⟩:=x;exact ⟨z,its,r,ob,k _ _ (.inl rfl) e,c⟩
 | dK kvs=>obtain⟨z,y,vs,r,ob,es,ep,e,c⟩:=x;exact ⟨z,y,vs,r,ob,es,ep,k _ _ (.inl rfl) e,c⟩
 | dT kvs =>
   obtain⟨z,y,xs,r,ob,es,ep,e,c⟩:=x
   exact ⟨z,y,xs,Paired.mapP r fun p q z=>⟨z.1,ht _ _ z.2.1,z.2.2⟩,ob,es,ep,k _ _ (.inl rfl) e,c⟩
 | set S n=>obtain⟨ob,es,ep,t,e,c⟩:=x;exact ⟨ob,es,ep,t,k _ _ (.inl rfl) e,c⟩
 | ins C dx fs =>
   obtain⟨d,z,ne,e,mA,⟨od,es,ep,e2,c⟩,r⟩:=x
   exact ⟨ho _ d,z,ne,k _ _ (.inl rfl) e,mA,⟨od,es,ep,k _ _ (.inr d) e2,c⟩,r⟩
 | own y=>obtain⟨ob,e⟩:=x;exact ⟨ob,k _ _ (.inl rfl) e⟩
 | xd fs=>obtain⟨mA,⟨od,es,ep,e,c⟩,r⟩:=x;exact ⟨mA,⟨od,es,ep,k _ _ (.inl rfl) e,c⟩,r⟩
 | rng lo hi=>obtain⟨t,u,v,e⟩:=x;exact ⟨t,u,v,k _ _ (.inl rfl) e⟩
 | frz ob u ih=>obtain⟨e,q⟩:=x;exact ⟨k _ _ (.inl rfl) e,ih q⟩
 | tbl ps =>
   have e:h.get? a=some { cls:=.none,data:=.fields ps }:=x
   show h'.get? a=some { cls:=.none,data:=.fields ps }
   exact k a _ (.inl rfl) e
 | met f y =>
   have e:h.get? a=some (PySem.W.methodObj (.ref f) (.ref y)):=x
   show h'.get? a=some (PySem.W.methodObj (.ref f) (.ref y))
   exact k a _ (.inl rfl) e
 | ext φ=>obtain⟨p,⟨o,e⟩,st⟩:=x;exact ⟨st _ _ p fun o q=>k _ _ (.inl rfl) q,⟨o,k _ _ (.inl rfl) e⟩,st⟩
theorem HOk.lt (x:HOk P w H h) (e:H a=some o):a<h.objs.size:=(x a o e).lt
theorem HOk.fresh (x:HOk P w H h) (e:h.objs.size<=a):H a=none:=by
 cases q:H a with
 | none=>rfl
 | some u=>exact absurd (Nat.lt_of_lt_of_le (x.lt q) e) (Nat.lt_irrefl _)
theorem HOk.kept (x:HOk P w H h) (k:∀ b u,h.get? b=some u->h'.get? b=some u):HOk P w H h':=fun a o e =>
 (x a o e).stay (fun b u _ q=>k b u q) (fun _ q=>q) fun _ _ q=>q
theorem HOk.laid (x:HOk P w H h) (k:∀ b u,h.get? b=some u->h'.get? b=some u) (hp:h.objs.size<=a) (new:ObjOk P w (upd H a o) h' a o):HOk P w (upd H a o) h':=fun b u e=>by
 have hn:=x.fresh hp
 by_cases hb:b=a
 . subst hb;rw [Ae] at e;cases e;exact new
 . rw [An hb] at e
   exact (x b u e).stay (fun c v _ q=>k c v q) (fun c q=>by rw [An (A8 q hn)];exact q) fun c xs q=>by rw [An (A8 q hn)];exact q
end
def Rd (H:Hp) (a:Addr) (u:HO):Prop:=H a=some u\/∃ o,H a=some (.frz o u)
theorem Rd.ok {P:Program}{w:World}{H:Hp}{h:Heap}{a:Addr}{u:HO} (r:Rd H a u) (x:HOk P w H h):ObjOk P w H h a u:=by
 rcases r with r|⟨o,r⟩
 . exact x a u r
 . obtain⟨_,q⟩:=x a _ r
   exact q
def Mut:Option HO->Prop
 | some (.lst _)=>True
 | some (.dK _)=>True
 | some (.dT _)=>True
 | some (.set _ _)=>True
 | some (.ins _ _ _)=>True
 | some (.ext _)=>True
 | _=>False
section
variable {P:Program}{w:World}{H:Hp}{h h':Heap}{x e:Addr}{o':HO}
theorem HOk.write (ok:HOk P w H h) (mu:Mut (H x)) (he:e=x\/H e=some (.own x)) (k:∀ b u,b≠e->h.get? b=some u->h'.get? b=some u) (heo:∃ u,h'.get? e=some u)
 (new:ObjOk P w (upd H x o') h' x o'):HOk P w (upd H x o') h':=fun b u q=>by
 have nown:∀ c y,H c=some (.own y)->c≠x:=fun c y r z=>by subst z;rw [r] at mu;exact mu
 have ntup:∀ c xs,H c=some (.tup xs)->c≠x:=fun c xs r z=>by subst z;rw [r] at mu;exact mu
 by_cases hb:b=x
 . subst hb;rw [Ae] at q;cases q;exact new
 . rw [An hb] at q
   by_cases hbe:b=e
   . have q':H b=some (.own x):=by
      rcases he with z | z
      . exact absurd (hbe.trans z) hb
      . rw [hbe];exact z
     rw [q] at q';cases q'
     obtain⟨v,hv⟩:=heo
     exact ⟨v,by rw [hbe];exact hv⟩
   . refine (ok b u q).stay (fun c v hc r=>k c v ?_ r) (fun c r=>by rw [An (nown c b r)];exact r) fun c xs r=>by rw [An (ntup c xs r)];exact r
     rcases hc with rfl | hc
     . exact hbe
     . rintro rfl
       rcases he with z | z
       . exact nown c b hc z
       . rw [hc] at z;cases z;exact hb rfl
end
structure Un (fs ex:List Addr) (H H':Hp) (h h':Heap):Prop where
 keep:∀ b o,h.get? b=some o->H b=none->b ∉ fs->b ∉ ex->h'.get? b=some o
 slot:∀ b o,h.get? b=some o->H b=none->b∈fs->b ∉ ex->∃ sl,h'.get? b=some { o with slots:=sl }
 free:∀ b o,h.get? b=some o->H b=none->b ∉ ex->H' b=none
 there:∀ b o,h.get? b=some o->b ∉ ex->∃ o',h'.get? b=some o'
 tups:∀ b xs,H b=some (.tup xs)->H' b=some (.tup xs)
 frzs:∀ b o u,H b=some (.frz o u)->H' b=some (.frz o u)
 tbls:∀ b ps,H b=some (.tbl ps)->∃ more,H' b=some (.tbl (ps++more))
section
variable {fs fs' ex ex':List Addr}{H H1 H2:Hp}{h h1 h2 h':Heap}{a x e:Addr}{o:HO}
theorem Un.any (u:Un fs ex H H1 h h1) {b:Addr}{ob:Obj} (q:h.get? b=some ob) (n:H b=none) (hx:b ∉ ex):∃ sl,h1.get? b=some { ob with slots:=sl }:=by
 by_cases hb:b∈fs
 . exact u.slot b ob q n hb hx
 . exact ⟨ob.slots,u.keep b ob q n hb hx⟩
theorem Un.kept (k:∀ b u,h.get? b=some u->h'.get? b=some u):Un fs ex H H h h' :=
 ⟨fun b ob q _ _ _=>k b ob q,fun b ob q _ _ _=>⟨ob.slots,k b ob q⟩,fun _ _ _ n _=>n,fun b ob q _=>⟨ob,k b ob q⟩,fun _ _ q=>q,fun _ _ _ q=>q,fun _ ps q=>⟨#[],by rw [q];simp⟩⟩
theorem Un.refl:Un fs ex H H h h:=Un.kept fun _ _ q=>q
theorem Un.laid (k:∀ b u,h.get? b=some u->h'.get? b=some u) (hp:h.objs.size<=a) (hn:H a=none):Un fs ex H (upd H a o) h h' where
 keep:=fun b u q _ _ _=>k b u q
 slot:=fun b u q _ _ _=>⟨u.slots,k b u q⟩
 free:=fun b u q n _=>by rw [An (Nat.ne_of_lt (Nat.lt_of_lt_of_le (Heap.lt_size q) hp))];exact n
 there:=fun b u q _=>⟨u,k b u q⟩
 tups:=fun b xs q=>by rw [An (A8 q hn)];exact q
 frzs:=fun b u xs q=>by rw [An (A8 q hn)];exact q
 tbls:=fun b ps q=>⟨#[],by rw [An (A8 q hn),q];simp⟩
theorem Un.write (mu:Mut (H x)) (he:e=x\/H e=some (.own x)) (k:∀ b u,b≠e->h.get? b=some u->h'.get? b=some u) (heo:∃ u,h'.get? e=some u):Un fs ex H (upd H x o) h h':=by
 have hx:∀ b,H b=none->b≠x:=fun b n z=>by subst z;rw [n] at mu;exact mu
 have hb:∀ b,H b=none->b≠e:=fun b n z=>by
  subst z
  rcases he with r | r
  . exact hx b n r
  . rw [n] at r;cases r
 have hm:∀ b u,H b=some u->¬Mut (some u)->b≠x:=fun b u q nm z=>by subst z;rw [q] at mu;exact nm mu
 refine⟨fun b u q n _ _=>k b u (hb b n) q,fun b u q n _ _=>⟨u.slots,k b u (hb b n) q⟩,fun b u q n _=>by rw [An (hx b n)];exact n,fun b u q _=>?_,
  fun b xs q=>by rw [An (hm b _ q fun z=>z)];exact q,fun b u xs q=>by rw [An (hm b _ q fun z=>z)];exact q,fun b ps q=>⟨#[],by rw [An (hm b _ q fun z=>z),q];simp⟩⟩
 by_cases hbe:b=e
 . subst hbe;exact heo
 . exact ⟨u,k b u hbe q⟩
end
def trk (h:Heap) (H:Hp):List Addr:=(List.range h.objs.size).filter fun a=>(H a).isSome
def hidT (h:Heap) (H:Hp):Heap:=PySem.W.hideAll h (trk h H)
theorem A07 (h:Heap) (H:Hp):(hidT h H).objs.size=h.objs.size:=PySem.W.hideAll_size _ _
theorem Bb5 {h:Heap}{H:Hp}{b:Addr}{o:Obj} (e:h.get? b=some o) (n:H b=none):(hidT h H).get? b=some o :=
 PySem.W.hideAll_get _ e fun hm=>by
  have q:(H b).isSome=true:=(List.mem_filter.mp hm).2
  rw [n] at q;simp at q
theorem Bj1 {h:Heap}{H:Hp}{b:Addr}{o:Obj} (e:(hidT h H).get? b=some o):h.get? b=some o/\H b=none:=by
 have e':h.get? b=some o:=PySem.W.of_hideAll (trk h H) e
 refine⟨e',?_⟩
 cases q:H b with
 | none=>rfl
 | some x =>
   have hm:b∈trk h H:=List.mem_filter.mpr ⟨List.mem_range.mpr (Heap.lt_size e'),by simp [q]⟩
   have z:(hidT h H).get? b=none:=PySem.W.hideAll_none (trk h H) hm
   rw [z] at e;cases e
def Bn2 (g h:Heap) (L:Addr):List (Addr × Obj):=(List.range h.objs.size).filterMap fun a=>if a=L\/(g.get? a).isSome=true then none else (h.get? a).map fun o=>(a,o)
def rest (g h:Heap) (L d:Addr):List (Addr × Obj):=(Bn2 g h L).filter fun p=>decide (p.1≠d)
end L2
namespace L2
open PySem PySem.Spec PyProof.Rows
structure Mod (K:W.Frag) (mg:Str->Option Value) (base:Heap):Prop where
 kin:K.In base
 glob:base.Ns mainGlobals mg
 blt:∃ mb,base.Ns builtinsNs mb/\∀ x:Str,x≠"__name__"->mb x=bootBuiltins x
 nolimit:base.NoLimit
structure Cx where
 prog:Program
 w:World
 K:PySem.W.Frag
 mg:Str->Option Value
 base:Heap
 A:Around
 N:List Str
 s₀:Shared
 H₀:Hp
 env:Env
 outer:List Env
 stack:List Env
 ex:List Addr
 fn:Str->Bool
 calm:Bool
 pn:List (Addr × Obj)
 xe:Value->Shared->Prop
def frs (l:List Env):List Addr:=l.filterMap (·.frame)
abbrev Cx.fs (X:Cx):List Addr:=frs X.outer
def Vis (sc:Scope) (x:Str):Prop:=sc.names.lookup x=some .local\/sc.names.lookup x=some .cell\/sc.names.lookup x=some .free
def Loc (sc:Scope) (x:Str):Prop:=sc.names.lookup x=some .local\/sc.names.lookup x=some .cell
def Look (env:Env) (h:Heap) (m:Str->Option Value) (x:Str) (u:Value):Prop :=
 (env.kindOf x=some .local/\m x=some u)\/((env.kindOf x=some .cell\/env.kindOf x=some .free)/\∃ c,env.cells.lookup x=some c/\h.IsCell c (some u))
structure Cx.Ok (X:Cx):Prop where
 mod:Mod X.K X.mg X.base
 kind:X.env.scope.kind=.function
 glob:X.env.globals=mainGlobals
 blt:X.env.builtins=builtinsNs
 above:X.s₀.heap.objs.size<=X.env.locals
 inj:∀ x y c,X.env.cells.lookup x=some c->X.env.cells.lookup y=some c->x=y
 has:∀ x,(X.env.kindOf x=some .cell\/X.env.kindOf x=some .free)->∃ c,X.env.cells.lookup x=some c
 cab:∀ x c,X.fn x=true->X.env.cells.lookup x=some c->X.s₀.heap.objs.size<=c
 hd:X.calm=true->X.A.handled=none
 frames:X.A.frames=some X.stack
 stk:X.stack=X.outer\/(X.stack=X.env::X.outer/\X.env.frame=some X.env.locals)
 exf:∀ b∈X.ex,b≠X.env.locals/\∀ x c,X.env.cells.lookup x=some c->c≠b
 bs:∀ b o,X.base.get? b=some o->X.s₀.heap.get? b=some o/\X.H₀ b=none
 bsz:X.base.objs.size<=X.s₀.heap.objs.size
 noex:∀ b o,X.base.get? b=some o->b ∉ X.ex
 exfs:∀ b∈X.ex,b ∉ X.fs
 funs:X.s₀.heap.FunFrames X.base X.outer
 frf:∀ b∈X.fs,X.H₀ b=none
structure Inv (X:Cx) (Ab:List (Addr × Obj)) (σ:List (Option V)) (H:Hp) (s:Shared):Prop where
 ok:X.Ok
 os:s.os=X.s₀.os
 bare:AllBare s.gens
 base:Un X.fs X.ex X.H₀ H X.s₀.heap s.heap
 loc:∃ m,s.heap.Ns X.env.locals m/\∀ (i:Nat) (x:Str) (v:V),X.N[i]?=some x->σ[i]?=some (some v)->Vis X.env.scope x->∃ u,RelV v u/\Look X.env s.heap m x u
 cell:∀ x c,X.env.cells.lookup x=some c->∃ v,s.heap.IsCell c v
 free:H X.env.locals=none
 freeC:∀ x c,X.env.cells.lookup x=some c->H c=none
 pin:∀ p∈X.pn++Ab,s.heap.get? p.1=some p.2/\H p.1=none/\p.1≠X.env.locals/\p.1 ∉ X.fs/\∀ v,p.2.data≠.cell v
 hok:HOk X.prog X.w H s.heap
 len:σ.length=X.N.length
section
variable {X:Cx}{Ab:List (Addr × Obj)}{σ:List (Option V)}{H H':Hp}{s:Shared}{h':Heap}
theorem Cx.Ok.nofr (ok:X.Ok) {b:Addr}{o:Obj} (e:X.base.get? b=some o):b ∉ X.fs:=fun hb=>by
 have:=(ok.funs.mem hb).1
 rw [e] at this;cases this
theorem Inv.bs (I:Inv X Ab σ H s):∀ b o,X.base.get? b=some o->s.heap.get? b=some o/\H b=none:=fun b o e =>
 ⟨I.base.keep b o (I.ok.bs b o e).1 (I.ok.bs b o e).2 (I.ok.nofr e) (I.ok.noex b o e),I.base.free b o (I.ok.bs b o e).1 (I.ok.bs b o e).2 (I.ok.noex b o e)⟩
theorem Inv.bk (I:Inv X Ab σ H s):∀ b o,X.base.get? b=some o->s.heap.get? b=some o:=fun b o e=>(I.bs b o e).1
theorem Inv.mod (I:Inv X Ab σ H s):Mod X.K X.mg X.base:=I.ok.mod
theorem Inv.kIn (I:Inv X Ab σ H s):X.K.In s.heap:=I.ok.mod.kin.keeps I.bk
theorem Inv.lt (I:Inv X Ab σ H s):X.env.locals<s.heap.objs.size:=let ⟨_,hn,_⟩:=I.loc;hn.lt
theorem Inv.sz (I:Inv X Ab σ H s):X.s₀.heap.objs.size<=s.heap.objs.size:=Nat.le_trans I.ok.above (Nat.le_of_lt I.lt)
theorem Inv.nofs (I:Inv X Ab σ H s) {a:Addr} (h:s.heap.objs.size<=a):a ∉ X.fs:=fun hb=>by
 obtain⟨_,o,ho,_⟩:=I.ok.funs.mem hb
 exact absurd (Nat.lt_of_lt_of_le (Heap.lt_size ho) (Nat.le_trans I.sz h)) (Nat.lt_irrefl _)
theorem Inv.cne (I:Inv X Ab σ H s):∀ x c,X.env.cells.lookup x=some c->c≠X.env.locals:=fun x c e z=>by
 obtain⟨v,o,ho,hd⟩:=I.cell x c e
 obtain⟨m,⟨o',es,ep,ho',hd',_⟩,_⟩:=I.loc
 rw [z,ho'] at ho;cases ho;rw [hd'] at hd;cases hd
theorem Inv.funs (I:Inv X Ab σ H s):s.heap.FunFrames X.base X.outer:=by
 have all:∀ (l:List Env),(∀ b∈frs l,b∈X.fs)->X.s₀.heap.FunFrames X.base l->s.heap.FunFrames X.base l:=by
  intro l
  induction l with
  | nil=>intro _ _;trivial
  | cons env r ih =>
    intro hs hl
    obtain⟨hk,⟨L,o,hf,hn,ho,hd⟩,hr⟩:=hl
    have hL:L∈X.fs:=hs L (by unfold frs;rw [List.filterMap_cons,hf];exact List.mem_cons_self)
    obtain⟨sl,e⟩:=I.base.slot L o ho (I.ok.frf L hL) hL fun z=>I.ok.exfs L z hL
    exact ⟨hk,⟨L,_,hf,hn,e,hd⟩,ih (fun b hb=>hs b (by unfold frs;rw [List.filterMap_cons,hf];exact List.mem_cons_of_mem _ hb)) hr⟩
 exact all X.outer (fun _ hb=>hb) I.ok.funs
theorem Inv.stack (I:Inv X Ab σ H s):s.heap.FunFrames X.base X.stack:=by
 rcases I.ok.stk with e|⟨e,hf⟩
 . rw [e];exact I.funs
 . rw [e]
   obtain⟨m,hn,_⟩:=I.loc
   refine .cons (by rw [I.ok.kind];decide) hf hn ?_ I.funs
   exact Heap.get?_none_of_le (Nat.le_trans I.ok.bsz I.ok.above)
theorem Inv.stkSub (I:Inv X Ab σ H s):∀ b∈frs X.stack,b∈X.env.locals::X.fs:=fun b hb=>by
 rcases I.ok.stk with e|⟨e,hf⟩
 . rw [e] at hb;exact List.mem_cons_of_mem _ hb
 . rw [e] at hb
   unfold frs at hb
   rw [List.filterMap_cons,hf] at hb
   exact hb
theorem Inv.stkFree (I:Inv X Ab σ H s):∀ b∈frs X.stack,H b=none:=fun b hb=>by
 rcases List.mem_cons.mp (I.stkSub b hb) with e | hb
 . rw [e];exact I.free
 . obtain⟨_,o,ho,_⟩:=I.ok.funs.mem hb
   exact I.base.free b o ho (I.ok.frf b hb) fun z=>I.ok.exfs b z hb
theorem Inv.step {g':Array GenState}{t':Nat}{d':Drawn}{ch:List Addr} (I:Inv X Ab σ H s)
 (hch:∀ b∈ch,(b∈X.ex\/X.s₀.heap.objs.size<=b)/\b≠X.env.locals/\(∀ x c,X.env.cells.lookup x=some c->c≠b)/\∀ p∈X.pn++Ab,p.1≠b)
 (keep:∀ b o,b≠X.env.locals->b ∉ X.fs->b ∉ ch->s.heap.get? b=some o->H b=none->h'.get? b=some o)
 (slot:∀ b o,b≠X.env.locals->b∈X.fs->b ∉ ch->s.heap.get? b=some o->H b=none->∃ sl,h'.get? b=some { o with slots:=sl }) (free:∀ b o,b ∉ ch->s.heap.get? b=some o->H b=none->H' b=none)
 (there:∀ b o,b ∉ ch->s.heap.get? b=some o->∃ o',h'.get? b=some o')
 (tups:∀ b xs,H b=some (.tup xs)->H' b=some (.tup xs)) (frzs:∀ b o u,H b=some (.frz o u)->H' b=some (.frz o u)) (tbls:∀ b ps,H b=some (.tbl ps)->∃ more,H' b=some (.tbl (ps++more)))
 (ns:∀ m,s.heap.Ns X.env.locals m->h'.Ns X.env.locals m) (hok:HOk X.prog X.w H' h') (hg:AllBare g') :
 Inv X Ab σ H' { s with heap:=h',gens:=g',drawn:=d',toks:=t' }:=by
 have neL:∀ b o,X.s₀.heap.get? b=some o->b≠X.env.locals:=fun b o e=>Nat.ne_of_lt (Nat.lt_of_lt_of_le (Heap.lt_size e) I.ok.above)
 have neC:∀ b o,X.s₀.heap.get? b=some o->b ∉ X.ex->b ∉ ch:=fun b o e hx hb=>by
  rcases (hch b hb).1 with z | z
  . exact hx z
  . exact absurd (Nat.lt_of_lt_of_le (Heap.lt_size e) z) (Nat.lt_irrefl _)
 have cellK:∀ x c,X.env.cells.lookup x=some c->∀ v,s.heap.IsCell c v->h'.IsCell c v:=fun x c e v ⟨o,ho,hd⟩=>by
  have nch:c ∉ ch:=fun z=>(hch c z).2.2.1 x c e rfl
  by_cases hc:c∈X.fs
  . obtain⟨sl,q⟩:=slot c o (I.cne x c e) hc nch ho (I.freeC x c e)
    exact ⟨_,q,hd⟩
  . exact ⟨o,keep c o (I.cne x c e) hc nch ho (I.freeC x c e),hd⟩
 refine⟨I.ok,I.os,hg,⟨fun b o e n hb hx=>?_,fun b o e n hb hx=>?_,fun b o e n hx=>?_,fun b o e hx=>?_,fun b xs e=>tups b xs (I.base.tups b xs e),fun b o xs e=>frzs b o xs (I.base.frzs b o xs e),fun b ps e=>?_⟩,?_,fun x c e=>?_,?_,fun x c e=>?_,fun p hp=>?_,hok,I.len⟩
 . exact keep b o (neL b o e) hb (neC b o e hx) (I.base.keep b o e n hb hx) (I.base.free b o e n hx)
 . obtain⟨sl,e1⟩:=I.base.slot b o e n hb hx
   obtain⟨sl',e2⟩:=slot b _ (neL b o e) hb (neC b o e hx) e1 (I.base.free b o e n hx)
   exact ⟨sl',e2⟩
 . obtain⟨o',e1⟩:=I.base.there b o e hx
   exact free b o' (neC b o e hx) e1 (I.base.free b o e n hx)
 . obtain⟨o',e1⟩:=I.base.there b o e hx
   exact there b o' (neC b o e hx) e1
 . obtain⟨m1,e1⟩:=I.base.tbls b ps e
   obtain⟨m2,e2⟩:=tbls b _ e1
   exact ⟨m1++m2,by rw [e2,Array.append_assoc]⟩
 . obtain⟨m,hn,hl⟩:=I.loc
   refine⟨m,ns m hn,fun i x v e1 e2 e3=>?_⟩
   obtain⟨u,r,l⟩:=hl i x v e1 e2 e3
   refine⟨u,r,?_⟩
   rcases l with l|⟨k,c,e,z⟩
   . exact .inl l
   . exact .inr ⟨k,c,e,cellK x c e _ z⟩
 . obtain⟨v,z⟩:=I.cell x c e
   exact ⟨v,cellK x c e v z⟩
 . obtain⟨m,⟨o,_,_,ho,_⟩,_⟩:=I.loc
   exact free _ o (fun z=>(hch _ z).2.1 rfl) ho I.free
 . obtain⟨v,o,ho,hd⟩:=I.cell x c e
   exact free c o (fun z=>(hch c z).2.2.1 x c e rfl) ho (I.freeC x c e)
 . obtain⟨e,n,ne,nf,d⟩:=I.pin p hp
   have nch:p.1 ∉ ch:=fun z=>(hch p.1 z).2.2.2 p hp rfl
   exact ⟨keep p.1 p.2 ne nf nch e n,free p.1 p.2 nch e n,ne,nf,d⟩
theorem Inv.un {t':Nat} (I:Inv X Ab σ H s) (u:Un X.fs [] H H' s.heap h') (hok:HOk X.prog X.w H' h'):Inv X Ab σ H' { s with heap:=h',toks:=t' }:=by
 obtain⟨m,⟨o,es,ep,ho,r⟩,_⟩:=id I.loc
 obtain⟨sl,hL⟩:=u.any ho I.free (by simp)
 exact I.step (g':=s.gens) (d':=s.drawn) (ch:=[]) (fun _ z=>nomatch z) (fun b o _ hb _ e n=>u.keep b o e n hb (by simp)) (fun b o _ hb _ e n=>u.slot b o e n hb (by simp)) (fun b o _ e n=>u.free b o e n (by simp)) (fun b o _ e=>u.there b o e (by simp)) u.tups u.frzs u.tbls (fun m' hm=>by
  obtain⟨o',es',ep',ho',r'⟩:=hm
  rw [ho] at ho';cases ho'
  exact ⟨_,es',ep',hL,r'⟩) hok I.bare
theorem Inv.call {g':Array GenState}{t':Nat}{d':Drawn}{ch:List Addr} (I:Inv X Ab σ H s) (u:Un (frs X.stack) ch H H' s.heap h') (hok:HOk X.prog X.w H' h') (hg:AllBare g')
 (hch:∀ b∈ch,(b∈X.ex\/X.s₀.heap.objs.size<=b)/\b≠X.env.locals/\(∀ x c,X.env.cells.lookup x=some c->c≠b)/\∀ p∈X.pn++Ab,p.1≠b) :
 Inv X Ab σ H' { s with heap:=h',gens:=g',drawn:=d',toks:=t' }:=by
 obtain⟨m,⟨o,es,ep,ho,r⟩,_⟩:=id I.loc
 obtain⟨sl,hL⟩:=u.any ho I.free fun z=>(hch _ z).2.1 rfl
 exact I.step (ch:=ch) hch (fun b o hL hb hc e n=>u.keep b o e n (fun z=>(List.mem_cons.mp (I.stkSub b z)).elim hL hb) hc) (fun b o _ _ hc e n=>u.any e n hc) (fun b o hc e n=>u.free b o e n hc) (fun b o hc e=>u.there b o e hc) u.tups u.frzs u.tbls (fun m' hm=>by
  obtain⟨o',es',ep',ho',r'⟩:=hm
  rw [ho] at ho';cases ho'
  exact ⟨_,es',ep',hL,r'⟩) hok hg
theorem Inv.turned {t':Nat}{it:Addr} (I:Inv X Ab σ H s) (k:∀ b o,b≠it->s.heap.get? b=some o->h'.get? b=some o) (hn:H it=none) (hL:it≠X.env.locals)
 (h1:it∈X.ex\/X.s₀.heap.objs.size<=it) (h2:∀ x c,X.env.cells.lookup x=some c->c≠it) (h3:∀ p∈X.pn++Ab,p.1≠it):Inv X Ab σ H { s with heap:=h',toks:=t' }:=by
 have nit:∀ b u,H b=some u->b≠it:=fun b u e z=>by rw [z,hn] at e;cases e
 refine I.step (g':=s.gens) (d':=s.drawn) (ch:=[it]) (fun b hb=>?_) (fun b o _ _ hc e _=>k b o (fun z=>hc (by simp [z])) e) (fun b o _ _ hc e _=>⟨o.slots,k b o (fun z=>hc (by simp [z])) e⟩) (fun _ _ _ _ n=>n)
  (fun b o hc e=>⟨o,k b o (fun z=>hc (by simp [z])) e⟩) (fun _ _ e=>e) (fun _ _ _ e=>e) (fun b ps e=>⟨#[],by rw [e];simp⟩) (fun m hm=>?_) (fun b u e=>?_) I.bare
 . have e:b=it:=by simpa using hb
   subst e
   exact ⟨h1,hL,h2,h3⟩
 . obtain⟨o,es,ep,ho,r⟩:=hm
   exact ⟨o,es,ep,k _ o (Ne.symm hL) ho,r⟩
 . refine (I.hok b u e).stay (fun c v hc q=>k c v ?_ q) (fun _ q=>q) fun _ _ q=>q
   rcases hc with z | z
   . rw [z];exact nit b u e
   . exact nit c _ z
theorem Inv.tok (I:Inv X Ab σ H s) (t:Nat):Inv X Ab σ H { s with toks:=t }:=I.un (h':=s.heap) (t':=t) Un.refl I.hok
theorem Inv.kept {t':Nat} (I:Inv X Ab σ H s) (k:∀ b u,s.heap.get? b=some u->h'.get? b=some u):Inv X Ab σ H { s with heap:=h',toks:=t' }:=I.un (Un.kept k) (I.hok.kept k)
theorem Inv.laid {a:Addr}{o:HO}{t':Nat} (I:Inv X Ab σ H s) (k:∀ b u,s.heap.get? b=some u->h'.get? b=some u) (hp:s.heap.objs.size<=a) (new:ObjOk X.prog X.w (upd H a o) h' a o) :
 Inv X Ab σ (upd H a o) { s with heap:=h',toks:=t' }:=I.un (Un.laid k hp (I.hok.fresh hp)) (I.hok.laid k hp new)
theorem Inv.write {x e:Addr}{o:HO}{t':Nat} (I:Inv X Ab σ H s) (mu:Mut (H x)) (he:e=x\/H e=some (.own x)) (k:∀ b u,b≠e->s.heap.get? b=some u->h'.get? b=some u) (heo:∃ u,h'.get? e=some u)
 (new:ObjOk X.prog X.w (upd H x o) h' x o):Inv X Ab σ (upd H x o) { s with heap:=h',toks:=t' }:=I.un (Un.write mu he k heo) (I.hok.write mu he k heo new)
theorem Inv.pins_of {pins':List (Addr × Obj)} (I:Inv X Ab σ H s) (h:∀ p∈pins',s.heap.get? p.1=some p.2/\H p.1=none/\p.1≠X.env.locals/\p.1 ∉ X.fs/\∀ v,p.2.data≠.cell v):Inv X pins' σ H s :=
 ⟨I.ok,I.os,I.bare,I.base,I.loc,I.cell,I.free,I.freeC,fun p hp=>(List.mem_append.mp hp).elim (fun z=>I.pin p (List.mem_append_left _ z)) (h p),I.hok,I.len⟩
theorem Xy {N:List Str} (hN:N.Nodup) {i j:Nat}{x:Str} (a:N[i]?=some x) (b:N[j]?=some x):i=j:=by
 obtain⟨h1,e1⟩:=List.getElem?_eq_some_iff.mp a
 obtain⟨h2,e2⟩:=List.getElem?_eq_some_iff.mp b
 exact (List.getElem_inj hN).mp (e1.trans e2.symm)
theorem Qd {M:Model}{A:Around}{E:Value->Shared->Prop}{i:Nat}{x:Str}{v:V}{u:Value}{Q:Unit->Shared->Prop} (I:Inv X Ab σ H s) (hN:X.N.Nodup) (hi:X.N[i]?=some x) (hx:Loc X.env.scope x) (r:RelV v u)
 (h:∀ s',Inv X Ab (σ.set i (some v)) H s'->(∃ a,Heap.SameBut a s.heap s'.heap/\(a=X.env.locals\/X.env.cells.lookup x=some a))->Q () s') (hf:X.fn x=true\/X.env.scope.names.lookup x=some .local:=by first | exact .inl rfl | exact .inr rfl | assumption):wpAny M A (storeName X.env x u) Q E s:=by
 obtain⟨m,hn,hl⟩:=id I.loc
 have hcls:(X.env.scope.kind==.class || (X.env.scope.kind==.module&&X.env.locals != X.env.globals))=false:=by rw [I.ok.kind];rfl
 have hiσ:i<σ.length:=by rw [I.len];exact (List.getElem?_eq_some_iff.mp hi).1
 have cne:=I.cne
 have tracked:∀{a:Addr}{h':Heap},(∃ o,s.heap.get? a=some o/\H a=none)->Heap.SameBut a s.heap h'->HOk X.prog X.w H h':=fun {a h'} ha hs b ob e=>by
  obtain⟨_,_,hfree⟩:=ha
  refine (I.hok b ob e).stay (fun c w' hc q=>(hs.2 c ?_).trans q) (fun _ q=>q) fun _ _ q=>q
  rintro rfl
  rcases hc with rfl | hc
  . rw [hfree] at e;cases e
  . rw [hfree] at hc;cases hc
 rcases hx with hk | hk
 . refine wpAny_storeName_local hk hn (fun h' hn' hs=>?_) hcls
   obtain⟨oL,_,_,hoL,_⟩:=id hn
   refine h _ ⟨I.ok,I.os,I.bare,⟨fun b o e n hb hx=>?_,fun b o e n hb hx=>?_,I.base.free,fun b o e hx=>?_,I.base.tups,I.base.frzs,I.base.tbls⟩,⟨_,hn',fun j y v' e1 e2 e3=>?_⟩,fun y c e=>?_,I.free,I.freeC,fun p hp=>?_,tracked ⟨oL,hoL,I.free⟩ hs,by simpa using I.len⟩ ⟨_,hs,.inl rfl⟩
   . exact (hs.2 b (Nat.ne_of_lt (Nat.lt_of_lt_of_le (Heap.lt_size e) I.ok.above))).trans (I.base.keep b o e n hb hx)
   . obtain⟨sl,e1⟩:=I.base.slot b o e n hb hx
     exact ⟨sl,(hs.2 b (Nat.ne_of_lt (Nat.lt_of_lt_of_le (Heap.lt_size e) I.ok.above))).trans e1⟩
   . obtain⟨o',e1⟩:=I.base.there b o e hx
     exact ⟨o',(hs.2 b (Nat.ne_of_lt (Nat.lt_of_lt_of_le (Heap.lt_size e) I.ok.above))).trans e1⟩
   . by_cases hj:j=i
     . subst hj
       rw [hi] at e1;cases e1
       rw [List.getElem?_set_self hiσ] at e2
       cases e2
       exact ⟨u,r,.inl ⟨hk,by simp⟩⟩
     . rw [List.getElem?_set_ne (Ne.symm hj)] at e2
       obtain⟨u',r',q⟩:=hl j y v' e1 e2 e3
       refine⟨u',r',?_⟩
       rcases q with ⟨k,e⟩|⟨k,c,e,z⟩
       . refine .inl ⟨k,?_⟩
         have:y≠x:=fun e=>hj (Xy hN e1 (e▸hi))
         simp [this,e]
       . exact .inr ⟨k,c,e,z.sameBut hs (cne y c e)⟩
   . obtain⟨w',z⟩:=I.cell y c e
     exact ⟨w',z.sameBut hs (cne y c e)⟩
   . obtain⟨e,n,ne,nf,d⟩:=I.pin p hp
     exact ⟨(hs.2 p.1 ne).trans e,n,ne,nf,d⟩
 . have hfn:X.fn x=true:=by
    rcases hf with z | z
    . exact z
    . rw [z] at hk;cases hk
   obtain⟨c,hc⟩:=I.ok.has x (.inl hk)
   obtain⟨w',z⟩:=I.cell x c hc
   refine wpAny_storeName_cell I.ok.kind hk hc z (fun h' hc' hs=>?_)
   obtain⟨oc,hoc,hocd⟩:=id z
   refine h { s with heap:=h' } ⟨I.ok,I.os,I.bare,⟨fun b o e n hb hx=>?_,fun b o e n hb hx=>?_,I.base.free,fun b o e hx=>?_,I.base.tups,I.base.frzs,I.base.tbls⟩,⟨m,hn.sameBut hs (Ne.symm (cne x c hc)),fun j y v' e1 e2 e3=>?_⟩,fun y c' e=>?_,I.free,I.freeC,fun p hp=>?_,tracked ⟨oc,hoc,I.freeC x c hc⟩ hs,by simpa using I.len⟩ ⟨c,hs,.inr hc⟩
   . exact (hs.2 b (Nat.ne_of_lt (Nat.lt_of_lt_of_le (Heap.lt_size e) (I.ok.cab x c hfn hc)))).trans (I.base.keep b o e n hb hx)
   . obtain⟨sl,e1⟩:=I.base.slot b o e n hb hx
     exact ⟨sl,(hs.2 b (Nat.ne_of_lt (Nat.lt_of_lt_of_le (Heap.lt_size e) (I.ok.cab x c hfn hc)))).trans e1⟩
   . obtain⟨o',e1⟩:=I.base.there b o e hx
     exact ⟨o',(hs.2 b (Nat.ne_of_lt (Nat.lt_of_lt_of_le (Heap.lt_size e) (I.ok.cab x c hfn hc)))).trans e1⟩
   . by_cases hj:j=i
     . subst hj
       rw [hi] at e1;cases e1
       rw [List.getElem?_set_self hiσ] at e2
       cases e2
       exact ⟨u,r,.inr ⟨.inl hk,c,hc,hc'⟩⟩
     . rw [List.getElem?_set_ne (Ne.symm hj)] at e2
       obtain⟨u',r',q⟩:=hl j y v' e1 e2 e3
       refine⟨u',r',?_⟩
       rcases q with q|⟨k,c',e,z'⟩
       . exact .inl q
       . refine .inr ⟨k,c',e,z'.sameBut hs ?_⟩
         rintro rfl
         exact hj (Xy hN e1 (I.ok.inj _ _ _ e hc▸hi))
   . by_cases hcc:c'=c
     . subst hcc;exact ⟨_,hc'⟩
     . obtain⟨w2,z2⟩:=I.cell y c' e
       exact ⟨w2,z2.sameBut hs hcc⟩
   . obtain⟨e,n,ne,nf,d⟩:=I.pin p hp
     refine⟨(hs.2 p.1 ?_).trans e,n,ne,nf,d⟩
     intro q
     rw [q,hoc] at e
     have q':oc=p.2:=Option.some.inj e
     exact d w' (by rw [←q'];exact hocd)
theorem P3 {M:Model}{A:Around}{E:Value->Shared->Prop}{i:Nat}{x:Str}{v:V}{u:Value}{Q:Unit->Shared->Prop} (I:Inv X Ab σ H s) (hN:X.N.Nodup) (hi:X.N[i]?=some x) (hx:Loc X.env.scope x) (r:RelV v u)
 (h:∀ s',Inv X Ab (σ.set i (some v)) H s'->Q () s') (hf:X.fn x=true\/X.env.scope.names.lookup x=some .local:=by first | exact .inl rfl | exact .inr rfl | assumption):wpAny M A (storeName X.env x u) Q E s :=
 Qd I hN hi hx r (fun s' I' _=>h s' I') hf
theorem Inv.call' {s':Shared}{ch:List Addr} (I:Inv X Ab σ H s) (ho:s'.os=s.os) (u:Un (frs X.stack) ch H H' s.heap s'.heap) (hok:HOk X.prog X.w H' s'.heap) (hg:AllBare s'.gens)
 (hch:∀ b∈ch,(b∈X.ex\/X.s₀.heap.objs.size<=b)/\b≠X.env.locals/\(∀ x c,X.env.cells.lookup x=some c->c≠b)/\∀ p∈X.pn++Ab,p.1≠b):Inv X Ab σ H' s':=by
 obtain⟨h',g',d',t',o'⟩:=s'
 have e:o'=s.os:=ho
 subst e
 exact I.call (g':=g') (t':=t') (d':=d') u hok hg hch
end
abbrev XK:=Value->Option Addr->Hp->Prop
abbrev St:=List (Option V)
abbrev VK:=V->Hp->Prop
abbrev TE:=St->Hp->VK->Prop
abbrev TT:=St->Hp->(Bool->Hp->Prop)->Prop
abbrev TA:=St->Hp->(List V->Hp->Prop)->Prop
structure Ends where
 nx:St->Hp->Prop
 rt:VK
 bk:St->Hp->Prop:=fun _ _=>False
 ct:St->Hp->Prop:=fun _ _=>False
abbrev TS:=Ends->St->Hp->Prop
def EP (X:Cx) (Ab:List (Addr × Obj)) (σ:St) (Q:VK) (u:Value) (s':Shared):Prop:=∃ v H',Inv X Ab σ H' s'/\RelV v u/\Q v H'
def TP (X:Cx) (Ab:List (Addr × Obj)) (σ:St) (Q:Bool->Hp->Prop) (b:Bool) (s':Shared):Prop:=∃ H',Inv X Ab σ H' s'/\Q b H'
def AP (X:Cx) (Ab:List (Addr × Obj)) (σ:St) (Q:List V->Hp->Prop) (us:List Value) (s':Shared):Prop:=∃ vs H',Inv X Ab σ H' s'/\Vals vs us/\Q vs H'
def SP (X:Cx) (Ab:List (Addr × Obj)) (D:Ends) (f:Flow) (s':Shared):Prop :=
 match f with
 | .next=>∃ σ' H',Inv X Ab σ' H' s'/\D.nx σ' H'
 | .brk=>∃ σ' H',Inv X Ab σ' H' s'/\D.bk σ' H'
 | .cont=>∃ σ' H',Inv X Ab σ' H' s'/\D.ct σ' H'
 | .ret u=>∃ v σ' H',Inv X Ab σ' H' s'/\RelV v u/\D.rt v H'
def PE (X:Cx) (e:Expr) (t:TE):Prop :=
 ∀ (Ab:List (Addr × Obj)) (s:Shared) (σ:St) (H:Hp) (Q:VK),Inv X Ab σ H s->t σ H Q->wpAny (model X.prog X.w) X.A (eval e X.env) (EP X Ab σ Q) X.xe s
def PT (X:Cx) (e:Expr) (t:TT):Prop :=
 ∀ (Ab:List (Addr × Obj)) (s:Shared) (σ:St) (H:Hp) (Q:Bool->Hp->Prop),Inv X Ab σ H s->t σ H Q->wpAny (model X.prog X.w) X.A (isTrue e X.env (eval e X.env)) (TP X Ab σ Q) X.xe s
def PW (X:Cx) (e:Expr) (t:TT):Prop :=
 ∀ (whole:Sem Value) (Ab:List (Addr × Obj)) (s:Shared) (σ:St) (H:Hp) (Q:Bool->Hp->Prop),Inv X Ab σ H s->t σ H Q->wpAny (model X.prog X.w) X.A (isTrue e X.env whole) (TP X Ab σ Q) X.xe s
theorem PW.pt {X:Cx}{e:Expr}{t:TT} (h:PW X e t):PT X e t:=h _
def PA (X:Cx) (es:List Expr) (t:TA):Prop :=
 ∀ (pos:Pos) (Ab:List (Addr × Obj)) (s:Shared) (σ:St) (H:Hp) (Q:List V->Hp->Prop),Inv X Ab σ H s->t σ H Q->wpAny (model X.prog X.w) X.A (spliced (backTo pos (starEach es X.env))) (AP X Ab σ Q) X.xe s
def PS (X:Cx) (st:Stmt) (t:TS):Prop :=
 ∀ (Ab:List (Addr × Obj)) (s:Shared) (σ:St) (H:Hp) (D:Ends),Inv X Ab σ H s->t D σ H->wpAny (model X.prog X.w) X.A (exec st X.env) (SP X Ab D) X.xe s
def PSs (X:Cx) (st:List Stmt) (t:TS):Prop :=
 ∀ (Ab:List (Addr × Obj)) (s:Shared) (σ:St) (H:Hp) (D:Ends),Inv X Ab σ H s->t D σ H->wpAny (model X.prog X.w) X.A (execs st X.env) (SP X Ab D) X.xe s
theorem thn {α:Type}{t:Sem α}{Q Q':α->Shared->Prop}{M:Model}{A:Around}{E:Value->Shared->Prop}{s:Shared} (h:wpAny M A t Q E s) (hQ:∀ a s,Q a s->Q' a s):wpAny M A t Q' E s:=wpAny_mono h hQ fun _ _ x=>x
end L2
namespace L2
open PySem PySem.Spec PyProof.Rows
section
variable {X:Cx}
theorem bin {a b:Expr}{ta tb:TE} (ha:PE X a ta) (hb:PE X b tb) {Ab:List (Addr × Obj)}{s:Shared}{σ:St}{H:Hp}{R:V->V->Hp->Prop} (I:Inv X Ab σ H s) (h:ta σ H fun x H1=>tb σ H1 fun y H2=>R x y H2)
 {α:Type}{Q:α->Shared->Prop}{f:Value->Value->Sem α}
 (hf:∀ v u s2 x y H2,Inv X Ab σ H2 s2->RelV x v->RelV y u->R x y H2->wpAny (model X.prog X.w) X.A (f v u) Q X.xe s2) :
 wpAny (model X.prog X.w) X.A (eval a X.env) (fun v s₁=>wpAny (model X.prog X.w) X.A (eval b X.env) (fun u s₂=>wpAny (model X.prog X.w) X.A (f v u) Q X.xe s₂) X.xe s₁) X.xe s:=by
 refine thn (ha Ab s σ H _ I h) fun v s1 ⟨x,H1,I1,r1,q1⟩=>?_
 refine thn (hb Ab s1 σ H1 _ I1 q1) fun u s2 ⟨y,H2,I2,r2,q2⟩=>?_
 exact hf v u s2 x y H2 I2 r1 r2 q2
def tVar (i:Nat):TE:=fun σ H Q=>∃ v,σ[i]?=some (some v)/\Q v H
def tC (v:V):TE:=fun _ H Q=>Q v H
theorem Bq2 {i:Nat}{x:Str}{pos:Pos} (hN:X.N[i]?=some x) (hv:Vis X.env.scope x) (hd:(x==("__debug__":Str))=false:=by decide) (hcd:(x==("__classdict__":Str))=false:=by decide):PE X (.Name x pos) (tVar i):=by
 intro Ab s σ H Q I h
 obtain⟨v,e,h⟩:=h
 obtain⟨m,hn,hl⟩:=I.loc
 obtain⟨u,r,l⟩:=hl i x v hN e hv
 have fin:EP X Ab σ Q u s:=⟨v,H,I,r,h⟩
 rcases l with ⟨hk,hm⟩|⟨hk,c,hc,hcell⟩
 . exact wpAny_Name (wpAny_loadName_local I.ok.kind hk hn hm fin) hd
 . rcases hk with hk | hk
   . exact wpAny_Name (wpAny_loadName_cell I.ok.kind hk hc hcell fin) hd
   . exact wpAny_Name (wpAny_loadName_free I.ok.kind hk hc hcell fin hcd) hd
theorem Ak {i j pos}:PE X (.Constant (.int i) j pos) (tC (.int i)):=fun _ _ _ H _ I h=>wpAny_Constant_int ⟨.int i,H,I.tok _,⟨_,rfl⟩,h⟩
theorem Js {b j pos}:PE X (.Constant (.bool b) j pos) (tC (.bl b)):=fun _ _ _ H _ I h=>Constant_bool ⟨.bl b,H,I,rfl,h⟩
theorem Ev {j pos}:PE X (.Constant .none j pos) (tC .non):=fun _ _ _ H _ I h=>Constant_none ⟨.non,H,I,rfl,h⟩
theorem Vr {x j pos}:PE X (.Constant (.str x) j pos) (tC (.str x)):=fun _ _ _ H _ I h=>Calls.Constant_str ⟨.str x,H,I.tok _,⟨_,rfl⟩,h⟩
def Gl (X:Cx) (x:Str):Prop:=X.env.kindOf x=some .globalImplicit
theorem Jy {E:Value->Shared->Prop}{Ab:List (Addr × Obj)}{s:Shared}{σ:St}{H:Hp}{x:Str}{u:Value}{pos:Pos}{Q:Value->Shared->Prop} (I:Inv X Ab σ H s) (hg:Gl X x) (hm:X.mg x=some u) (h:Q u s)
 (hd:(x==("__debug__":Str))=false:=by decide):wpAny (model X.prog X.w) X.A (eval (.Name x pos) X.env) Q E s :=
 Calls.Name_function_global I.ok.kind hg (Calls.loadGlobal_global (by rw [I.ok.glob];exact I.mod.glob.keeps I.bk) hm h) hd
theorem O2 {E:Value->Shared->Prop}{Ab:List (Addr × Obj)}{s:Shared}{σ:St}{H:Hp}{x:Str}{u:Value}{pos:Pos}{Q:Value->Shared->Prop} (I:Inv X Ab σ H s) (hg:Gl X x) (hm:X.mg x=none) (hv:bootBuiltins x=some u) (h:Q u s)
 (hn:x≠"__name__":=by decide) (hd:(x==("__debug__":Str))=false:=by decide):wpAny (model X.prog X.w) X.A (eval (.Name x pos) X.env) Q E s:=by
 obtain⟨mb,h1,h2⟩:=I.mod.blt
 exact Calls.Name_function_global I.ok.kind hg (Calls.loadGlobal_builtin (by rw [I.ok.glob];exact I.mod.glob.keeps I.bk) hm (by rw [I.ok.blt];exact h1.keeps I.bk) ((h2 x hn).trans hv) h) hd
theorem Cr {x:Str}{v:V}{u:Value}{pos:Pos} (hg:Gl X x) (hm:X.mg x=some u) (r:RelV v u) (hd:(x==("__debug__":Str))=false:=by decide):PE X (.Name x pos) (tC v) :=
 fun _ _ _ H _ I h=>Jy I hg hm ⟨v,H,I,r,h⟩ hd
theorem Jr {x:Str}{v:V}{u:Value}{pos:Pos} (hg:Gl X x) (hm:X.mg x=none) (hv:bootBuiltins x=some u) (r:RelV v u) (hn:x≠"__name__":=by decide) (hd:(x==("__debug__":Str))=false:=by decide):PE X (.Name x pos) (tC v) :=
 fun _ _ _ H _ I h=>O2 I hg hm hv ⟨v,H,I,r,h⟩ hn hd
variable {a b:Expr}{ta tb:TE}{pos:Pos}
def PC (X:Cx) (op:CmpOp) (a b:Expr) (t:TE):Prop :=
 ∀ (Ab:List (Addr × Obj)) (s:Shared) (σ:St) (H:Hp) (Q:VK),Inv X Ab σ H s->t σ H Q →
   wpAny (model X.prog X.w) X.A (eval a X.env) (fun v s₁=>wpAny (model X.prog X.w) X.A (eval b X.env) (fun u s₂=>wpAny (model X.prog X.w) X.A (compareOp op v u) (EP X Ab σ Q) X.xe s₂) X.xe s₁) X.xe s
theorem Ba6 (b:Expr) {op:CmpOp} (h:op≠.In) (h2:op≠.NotIn):behindInMarks op b=false:=by
 have e1:(op==CmpOp.In)=false:=by cases op<;>first | rfl | exact absurd rfl h
 have e2:(op==CmpOp.NotIn)=false:=by cases op<;>first | rfl | exact absurd rfl h2
 cases b<;>simp [behindInMarks,e1,e2]
def tB (t:TE):TT:=fun σ H Q=>t σ H fun x H1=>∃ c,x=.bl c/\Q c H1
theorem Bx5 {op:CmpOp}{t:TE} (h:PC X op a b t) (h1:behindInMarks op b=false:=by first | exact Ba6 _ (by decide) (by decide) | rfl):PT X (.Compare a [op] [b] pos) (tB t):=by
 intro Ab s σ H Q I hw
 refine wpAny_isTrue_Compare1 (thn (h Ab s σ H _ I hw) fun v s1 h1=>thn h1 fun u s2 h2=>thn h2 fun c s3 ⟨x,H1,I1,r1,q1⟩=>?_) h1
 obtain⟨d,rfl,q⟩:=q1
 cases r1
 exact wpAny_truthy_bool ⟨H1,I1,q⟩
theorem Dl {e:Expr}{t:TE} (h:PE X e t) (he:∀ whole,isTrue e X.env whole=(do let v ←whole;standAt e.pos;holding [v] (truthy v)):=by intro _;rfl):PT X e (tB t):=by
 intro Ab s σ H Q I hw
 refine isTrue_plain (thn (h Ab s σ H _ I hw) fun v s1 ⟨x,H1,I1,r1,q1⟩=>?_) (he _)
 obtain⟨d,rfl,q⟩:=q1
 cases r1
 exact wpAny_truthy_bool ⟨H1,I1,q⟩
variable {tA tB':TT}{rest:List Expr}
def tAnd (t u:TT):TT:=fun σ H Q=>t σ H fun c H1=>if c=true then u σ H1 Q else Q false H1
def tOr (t u:TT):TT:=fun σ H Q=>t σ H fun c H1=>if c=true then Q true H1 else u σ H1 Q
def tNot (t:TT):TT:=fun σ H Q=>t σ H fun c H1=>Q (!c) H1
theorem Ly (ha:PT X a tA):PW X (.BoolOp .And [a] pos) tA:=by
 intro wh Ab s σ H Q I h
 refine isTrue_and (thn (ha Ab s σ H Q I h) fun c s1 e=>?_)
 cases c with
 | true=>exact isTrue_and_nil e
 | false=>exact e
theorem Zf (ha:PT X a tA):PW X (.BoolOp .Or [a] pos) tA:=by
 intro wh Ab s σ H Q I h
 refine isTrue_or (thn (ha Ab s σ H Q I h) fun c s1 e=>?_)
 cases c with
 | false=>exact isTrue_or_nil e
 | true=>exact e
theorem Oy (ha:PT X a tA) (hb:PW X (.BoolOp .And (b::rest) pos) tB'):PW X (.BoolOp .And (a::b::rest) pos) (tAnd tA tB'):=by
 intro wh Ab s σ H Q I h
 refine isTrue_and (thn (ha Ab s σ H _ I h) fun c s1 ⟨H1,I1,q1⟩=>?_)
 cases c with
 | true=>exact hb wh Ab s1 σ H1 Q I1 q1
 | false=>exact ⟨H1,I1,q1⟩
theorem Aj8 (ha:PT X a tA) (hb:PW X (.BoolOp .Or (b::rest) pos) tB'):PW X (.BoolOp .Or (a::b::rest) pos) (tOr tA tB'):=by
 intro wh Ab s σ H Q I h
 refine isTrue_or (thn (ha Ab s σ H _ I h) fun c s1 ⟨H1,I1,q1⟩=>?_)
 cases c with
 | true=>exact ⟨H1,I1,q1⟩
 | false=>exact hb wh Ab s1 σ H1 Q I1 q1
theorem F2 (ha:PT X a tA):PT X (.UnaryOp .Not a pos) (tNot tA):=by
 intro Ab s σ H Q I h
 exact isTrue_not (ha Ab s σ H (fun c H1=>Q (!c) H1) I h)
def Bv5 (ta tb:TE):TE:=fun σ H Q=>ta σ H fun x H1=>∃ c,x=.bl c/\if c=true then tb σ H1 Q else Q (.bl false) H1
def tOrV (ta tb:TE):TE:=fun σ H Q=>ta σ H fun x H1=>∃ c,x=.bl c/\if c=true then Q (.bl true) H1 else tb σ H1 Q
def Bv0 (ta:TE):TE:=fun σ H Q=>ta σ H fun x H1=>∃ c,x=.bl c/\Q (.bl (!c)) H1
theorem F3 {op}{t:TE} (h:PE X a t):PE X (.BoolOp op [a] pos) t:=fun Ab s σ H Q I hw=>BoolOp_one (h Ab s σ H Q I hw)
theorem F4 (ha:PE X a ta) (hb:PE X (.BoolOp .And (b::rest) pos) tb):PE X (.BoolOp .And (a::b::rest) pos) (Bv5 ta tb):=by
 intro Ab s σ H Q I h
 refine BoolOp_and (thn (ha Ab s σ H _ I h) fun v s1 ⟨x,H1,I1,r1,q1⟩=>?_)
 obtain⟨c,rfl,q1⟩:=q1
 cases r1
 refine wpAny_truthy_bool ?_
 cases c with
 | true=>exact hb Ab s1 σ H1 Q I1 q1
 | false=>exact ⟨.bl false,H1,I1,rfl,q1⟩
theorem Bh7 (ha:PE X a ta) (hb:PE X (.BoolOp .Or (b::rest) pos) tb):PE X (.BoolOp .Or (a::b::rest) pos) (tOrV ta tb):=by
 intro Ab s σ H Q I h
 refine BoolOp_or (thn (ha Ab s σ H _ I h) fun v s1 ⟨x,H1,I1,r1,q1⟩=>?_)
 obtain⟨c,rfl,q1⟩:=q1
 cases r1
 refine wpAny_truthy_bool ?_
 cases c with
 | false=>exact hb Ab s1 σ H1 Q I1 q1
 | true=>exact ⟨.bl true,H1,I1,rfl,q1⟩
theorem Bd3 (ha:PE X a ta):PE X (.UnaryOp .Not a pos) (Bv0 ta):=by
 intro Ab s σ H Q I h
 refine UnaryOp_ (thn (ha Ab s σ H _ I h) fun v s1 ⟨x,H1,I1,r1,q1⟩=>?_)
 obtain⟨c,rfl,q1⟩:=q1
 cases r1
 exact not_of (wpAny_truthy_bool ⟨.bl (!c),H1,I1,rfl,q1⟩)
def tIf (t:TT) (ta tb:TE):TE:=fun σ H Q=>t σ H fun c H1=>if c=true then ta σ H1 Q else tb σ H1 Q
theorem Af2 {c:Expr} (hc:PT X c tA) (ha:PE X a ta) (hb:PE X b tb):PE X (.IfExp c a b pos) (tIf tA ta tb):=by
 intro Ab s σ H Q I h
 refine wpAny_IfExp (thn (hc Ab s σ H _ I h) fun d s1 ⟨H1,I1,q1⟩=>?_)
 cases d with
 | true=>exact ha Ab s1 σ H1 Q I1 q1
 | false=>exact hb Ab s1 σ H1 Q I1 q1
end
end L2
namespace L2
open PySem PySem.Spec PyProof.Rows
def SqL (K:W.Frag) (H:Hp) (a:Addr) (xs:List V):Prop :=
 Rd H a (.lst xs) ∨
  ∃ (o:Obj) (its:Array Value) (n:Nat),K.lookup a=some o/\o.cls=.type "list"/\o.dict=none/\o.data=.seq its n/\its.size<=sizeLine/\Vals xs its.toList
def SqT (K:W.Frag) (H:Hp) (a:Addr) (xs:List V):Prop :=
 Rd H a (.tup xs) ∨
  ∃ (o:Obj) (its:Array Value) (n:Nat),K.lookup a=some o/\o.cls=.type "tuple"/\o.dict=none/\o.data=.seq its n/\its.size<=sizeLine/\Vals xs its.toList
def absV:Value->Option V
 | .none=>some .non
 | .bool b=>some (.bl b)
 | .int i _=>some (.int i)
 | .str x _=>some (.str x)
 | .bytes b _=>some (.byt b)
 | .float b _=>some (.flt b)
 | .ref a=>some (.ref a)
 | .type n=>some (.ty n)
 | _=>none
theorem RelV.abs {x:V}{u:Value} (r:RelV x u):absV u=some x:=by
 cases x with
 | non=>cases r;rfl
 | bl _=>cases r;rfl
 | int _=>obtain⟨t,rfl⟩:=r;rfl
 | str _=>obtain⟨t,rfl⟩:=r;rfl
 | byt _=>obtain⟨t,rfl⟩:=r;rfl
 | flt _=>obtain⟨t,rfl⟩:=r;rfl
 | ref _=>cases r;rfl
 | ty _=>cases r;rfl
theorem RelV.inj {x y:V}{u:Value} (r:RelV x u) (q:RelV y u):x=y:=Option.some.inj (r.abs.symm.trans q.abs)
theorem Vals.inj:∀{xs ys:List V}{us:List Value},Vals xs us->Vals ys us->xs=ys
 | _,_,_,.nil,.nil=>rfl
 | _,_,_,.cons r t,.cons r' t'=>by rw [r.inj r',Vals.inj t t']
section
variable {X:Cx}{Ab:List (Addr × Obj)}{σ:St}{H:Hp}{s:Shared}{a:Addr}{xs ys:List V}
theorem SqL.of {K:W.Frag} (h:H a=some (.lst xs)):SqL K H a xs:=.inl (.inl h)
theorem SqT.of {K:W.Frag} (h:H a=some (.tup xs)):SqT K H a xs:=.inl (.inl h)
theorem Inv.list (I:Inv X Ab σ H s) (h:SqL X.K H a xs):∃ its:List Value,Vals xs its/\PlainL s.heap a its.toArray/\xs.length<=sizeLine:=by
 rcases h with h|⟨o,its,n,hk,hc,hd,hs,hz,r⟩
 . obtain⟨z,its,n,r,e⟩:=h.ok I.hok
   exact ⟨its,r,⟨_,n,e,rfl,rfl,rfl⟩,z⟩
 . refine⟨its.toList,r,⟨o,n,I.kIn a o hk,hc,hd,by simpa using hs⟩,?_⟩
   have e:=r.length
   simp only [Array.length_toList] at e
   omega
theorem Inv.tuple (I:Inv X Ab σ H s) (h:SqT X.K H a xs):∃ its:List Value,Vals xs its/\IsTup s.heap a its.toArray/\xs.length<=sizeLine:=by
 rcases h with h|⟨o,its,n,hk,hc,_,hs,hz,r⟩
 . obtain⟨z,its,r,p⟩:=h.ok I.hok
   exact ⟨its,r,p.tup,z⟩
 . refine⟨its.toList,r,⟨o,I.kIn a o hk,hc,n,by simpa using hs⟩,?_⟩
   have e:=r.length
   simp only [Array.length_toList] at e
   omega
theorem Inv.list_inj (I:Inv X Ab σ H s) (h:SqL X.K H a xs) (h':SqL X.K H a ys):xs=ys:=by
 obtain⟨its,r,⟨o,n,e,_,_,d⟩,_⟩:=I.list h
 obtain⟨its',r',⟨o',n',e',_,_,d'⟩,_⟩:=I.list h'
 rw [e] at e';cases e'
 rw [d] at d'
 injection d' with d1 _
 have:its=its':=by simpa using congrArg Array.toList d1
 subst this
 exact r.inj r'
theorem Inv.tuple_inj (I:Inv X Ab σ H s) (h:SqT X.K H a xs) (h':SqT X.K H a ys):xs=ys:=by
 obtain⟨its,r,⟨o,e,_,n,d⟩,_⟩:=I.tuple h
 obtain⟨its',r',⟨o',e',_,n',d'⟩,_⟩:=I.tuple h'
 rw [e] at e';cases e'
 rw [d] at d'
 injection d' with d1 _
 have:its=its':=by simpa using congrArg Array.toList d1
 subst this
 exact r.inj r'
end
abbrev Cx.wish (X:Cx) (E:Value->Shared->Prop):Cx:={ X with xe:=E }
abbrev Cx.nox (X:Cx):Cx:=X.wish fun _ _=>False
theorem Cx.Ok.wish {X:Cx} (ok:X.Ok) (E:Value->Shared->Prop):(X.wish E).Ok :=
 ⟨ok.mod,ok.kind,ok.glob,ok.blt,ok.above,ok.inj,ok.has,ok.cab,ok.hd,ok.frames,ok.stk,ok.exf,ok.bs,ok.bsz,ok.noex,ok.exfs,ok.funs,ok.frf⟩
theorem Cx.Ok.unwish {X:Cx}{E:Value->Shared->Prop} (ok:(X.wish E).Ok):X.Ok :=
 ⟨ok.mod,ok.kind,ok.glob,ok.blt,ok.above,ok.inj,ok.has,ok.cab,ok.hd,ok.frames,ok.stk,ok.exf,ok.bs,ok.bsz,ok.noex,ok.exfs,ok.funs,ok.frf⟩
section
variable {X:Cx}{Ab:List (Addr × Obj)}{σ:St}{H:Hp}{s:Shared}{E:Value->Shared->Prop}
theorem Inv.wish (I:Inv X Ab σ H s) (E:Value->Shared->Prop):Inv (X.wish E) Ab σ H s:=⟨I.ok.wish E,I.os,I.bare,I.base,I.loc,I.cell,I.free,I.freeC,I.pin,I.hok,I.len⟩
theorem Inv.unwish (I:Inv (X.wish E) Ab σ H s):Inv X Ab σ H s:=⟨I.ok.unwish,I.os,I.bare,I.base,I.loc,I.cell,I.free,I.freeC,I.pin,I.hok,I.len⟩
theorem SP.unwish {D:Ends}{f:Flow}{s':Shared} (h:SP (X.wish E) Ab D f s'):SP X Ab D f s':=by
 cases f with
 | next=>obtain⟨σ',H',I,q⟩:=h;exact ⟨σ',H',I.unwish,q⟩
 | brk=>obtain⟨σ',H',I,q⟩:=h;exact ⟨σ',H',I.unwish,q⟩
 | cont=>obtain⟨σ',H',I,q⟩:=h;exact ⟨σ',H',I.unwish,q⟩
 | ret u=>obtain⟨v,σ',H',I,r,q⟩:=h;exact ⟨v,σ',H',I.unwish,r,q⟩
theorem PSs.nox {st:List Stmt}{t:TS} (h:PSs X.nox st t):PSs X st t:=fun Ab s σ H D I hw =>
 wpAny_mono (h Ab s σ H D (I.wish _) hw) (fun _ _ q=>q.unwish) fun _ _ z=>False.elim z
end
section
variable {X:Cx}{st:Stmt}{rest:List Stmt}{t u:TS}{e:Expr}{te:TE}{pos:Pos}
def Bn7:TS:=fun D σ H=>D.nx σ H
def tSeq (t u:TS):TS:=fun D σ H=>t { D with nx:=u D } σ H
theorem Be:PSs X [] Bn7:=fun _ _ σ H _ I h=>wpAny_execs_nil ⟨σ,H,I,h⟩
theorem Ai (h1:PS X st t) (h2:PSs X rest u):PSs X (st::rest) (tSeq t u):=by
 intro Ab s σ H D I h
 refine wpAny_execs_cons (thn (h1 Ab s σ H { D with nx:=u D } I h) fun f s1 q=>?_)
 cases f with
 | next =>
   obtain⟨σ',H',I',q⟩:=q
   exact h2 Ab s1 σ' H' D I' q
 | ret v=>exact q
 | brk=>exact q
 | cont=>exact q
theorem Am (h1:PS X st t):PSs X [st] t:=by
 intro Ab s σ H D I h
 refine wpAny_execs_cons (thn (h1 Ab s σ H D I h) fun f s1 q=>?_)
 cases f with
 | next=>exact wpAny_execs_nil q
 | ret v=>exact q
 | brk=>exact q
 | cont=>exact q
theorem Inv.quiet {Ab:List (Addr × Obj)}{σ:St}{H:Hp}{s:Shared} (I:Inv X Ab σ H s):interactive X.env=false:=by simp [interactive,I.ok.kind]
def Bv2 (te:TE):TS:=fun D σ H=>te σ H fun _ H1=>D.nx σ H1
theorem Di (he:PE X e te) (hs:swapsWith e none pos.line X.env=pure false:=by rfl):PS X (.Expr e pos) (Bv2 te):=by
 intro Ab s σ H D I h
 exact wpAny_Expr_any (thn (he Ab s σ H _ I h) fun v s1 ⟨x,H1,I1,r1,q1⟩=>⟨σ,H1,I1,q1⟩) I.quiet hs
def tRet (te:TE):TS:=fun D σ H=>te σ H D.rt
theorem Bb (he:PE X e te):PS X (.Return (some e) pos) (tRet te):=by
 intro Ab s σ H D I h
 exact wpAny_Return_some (thn (he Ab s σ H _ I h) fun v s1 ⟨x,H1,I1,r1,q1⟩=>⟨x,σ,H1,I1,r1,q1⟩)
def tIfS (c:TT) (t u:TS):TS:=fun D σ H=>c σ H fun b H1=>if b=true then t D σ H1 else u D σ H1
theorem Bu {c:Expr}{a b:List Stmt}{tc:TT} (hc:PT X c tc) (ha:PSs X a t) (hb:PSs X b u):PS X (.If c a b pos) (tIfS tc t u):=by
 intro Ab s σ H D I h
 refine wpAny_If (thn (hc Ab s σ H _ I h) fun d s1 ⟨H1,I1,q1⟩=>?_)
 cases d with
 | true=>exact ha Ab s1 σ H1 D I1 q1
 | false=>exact hb Ab s1 σ H1 D I1 q1
def Bn8:TS:=fun _ _ _=>False
theorem Ae8:PS X st Bn8:=fun _ _ _ _ _ _ h=>h.elim
end
abbrev TG:=V->St->Hp->(St->Hp->Prop)->Prop
abbrev TGs:=List V->St->Hp->(St->Hp->Prop)->Prop
def PG (X:Cx) (target:Expr) (t:TG):Prop :=
 ∀ (Ab:List (Addr × Obj)) (s:Shared) (σ:St) (H:Hp) (v:V) (u:Value) (Q:St->Hp->Prop),Inv X Ab σ H s->RelV v u->t v σ H Q →
   wpAny (model X.prog X.w) X.A (assign target X.env u) (fun _ s'=>∃ σ' H',Inv X Ab σ' H' s'/\Q σ' H') X.xe s
def PGs (X:Cx) (ts:List Expr) (t:TGs):Prop :=
 ∀ (Ab:List (Addr × Obj)) (s:Shared) (σ:St) (H:Hp) (vs:List V) (us:List Value) (Q:St->Hp->Prop),Inv X Ab σ H s->Vals vs us->t vs σ H Q →
   wpAny (model X.prog X.w) X.A (assignInOrder ((assignEach ts X.env).map (·.2)) us) (fun _ s'=>∃ σ' H',Inv X Ab σ' H' s'/\Q σ' H') X.xe s
abbrev TIp:=V->V->Hp->VK->Prop
def PIp (X:Cx) (op:Operator) (t:TIp):Prop :=
 ∀ (Ab:List (Addr × Obj)) (s:Shared) (σ:St) (H:Hp) (x y:V) (v u:Value) (Q:VK),Inv X Ab σ H s->RelV x v->RelV y u->t x y H Q →
   wpAny (model X.prog X.w) X.A (inplaceOp op v u) (EP X Ab σ Q) X.xe s
section
variable {X:Cx}{pos:Pos}
def Ao6 (i:Nat):TG:=fun v σ H Q=>Q (σ.set i (some v)) H
theorem Bg {i:Nat}{x:Str} (hN:X.N.Nodup) (hi:X.N[i]?=some x) (hx:Loc X.env.scope x) (hf:X.fn x=true\/X.env.scope.names.lookup x=some .local:=by first | exact .inl rfl | exact .inr rfl | assumption):PG X (.Name x pos) (Ao6 i):=by
 intro Ab s σ H v u Q I r h
 exact wpAny_assign_Name (P3 I hN hi hx r (fun s' I'=>⟨_,H,I',h⟩) hf)
def gNil:TGs:=fun vs σ H Q=>vs=[]/\Q σ H
def Bw9 (t:TG) (u:TGs):TGs:=fun vs σ H Q=>∃ v r,vs=v::r/\t v σ H fun σ' H'=>u r σ' H' Q
theorem L4:PGs X [] gNil:=by
 intro Ab s σ H vs us Q I r h
 obtain⟨e,h⟩:=h
 subst e
 cases r
 exact assignInOrder_nil ⟨σ,H,I,h⟩
theorem C4 {e:Expr}{es:List Expr}{t:TG}{u:TGs} (h1:PG X e t) (h2:PGs X es u)
 (hs:(assignEach (e::es) X.env).map (·.2)=assign e X.env::(assignEach es X.env).map (·.2):=by rfl):PGs X (e::es) (Bw9 t u):=by
 intro Ab s σ H vs us Q I r h
 obtain⟨v,vr,e1,h⟩:=h
 subst e1
 cases r with
 | cons r rr =>
   rw [hs]
   refine assignInOrder_cons (thn (h1 Ab s σ H _ _ _ I r h) fun _ s1 ⟨σ1,H1,I1,q1⟩=>?_)
   exact h2 Ab s1 σ1 H1 _ _ Q I1 rr q1
def gTup (K:W.Frag) (n:Nat) (t:TGs):TG:=fun v σ H Q=>∃ a xs,v=.ref a/\SqT K H a xs/\xs.length=n/\t xs σ H Q
theorem Bq1 {es:List Expr}{k:Nat}{t:TGs}{n:Nat} (hc:X.calm=true) (h:PGs X es t)
 (hn:(assignEach es X.env).length=n:=by rfl) (hst:(assignEach es X.env).findIdx? (·.1)=none:=by rfl):PG X (.Tuple es k pos) (gTup X.K n t):=by
 intro Ab s σ H v u Q I r hw
 obtain⟨a,xs,e1,hq,hl,hw⟩:=hw
 subst e1
 cases r
 obtain⟨its,rv,ht,hz⟩:=I.tuple hq
 refine assign_Tuple_tuple (I.ok.hd hc) ht (by simp [hn,←hl,rv.length]) hst fun h' hx=>?_
 have I1:Inv X Ab σ H { s with heap:=h' }:=I.kept (t':=s.toks) fun b o e=>hx b o (Nat.ne_of_lt (Heap.lt_size e)) e
 exact h Ab _ σ H xs _ Q I1 (by simpa using rv) hw
def tAsg (te:TE) (g:TG):TS:=fun D σ H=>te σ H fun x H1=>g x σ H1 D.nx
theorem A5 {i:Nat}{x:Str}{e:Expr}{te:TE}{pos':Pos} (hN:X.N.Nodup) (hi:X.N[i]?=some x) (hx:Loc X.env.scope x) (he:PE X e te) (hs:swapsWith e (some (.Name x pos')) pos.line X.env=pure false:=by rfl) (hf:X.fn x=true\/X.env.scope.names.lookup x=some .local:=by first | exact .inl rfl | exact .inr rfl | assumption) :
 PS X (.Assign [.Name x pos'] e pos) (tAsg te (Ao6 i)):=by
 intro Ab s σ H D I h
 refine wpAny_Assign_Name (thn (he Ab s σ H _ I h) fun v s1 ⟨y,H1,I1,r1,q1⟩=>?_) hs
 exact P3 I1 hN hi hx r1 (fun s2 I2=>⟨_,H1,I2,q1⟩) hf
def tAug (i:Nat) (te:TE) (ti:TIp):TS:=fun D σ H=>∃ x,σ[i]?=some (some x)/\te σ H fun y H1=>ti x y H1 fun z H2=>D.nx (σ.set i (some z)) H2
theorem Bp8 {i:Nat}{x:Str}{e:Expr}{te:TE}{op:Operator}{ti:TIp}{pos':Pos} (hN:X.N.Nodup) (hi:X.N[i]?=some x) (hx:Loc X.env.scope x) (he:PE X e te) (ho:PIp X op ti) (hf:X.fn x=true\/X.env.scope.names.lookup x=some .local:=by first | exact .inl rfl | exact .inr rfl | assumption) :
 PS X (.AugAssign (.Name x pos') op e pos) (tAug i te ti):=by
 intro Ab s σ H D I h
 obtain⟨v,e1,h⟩:=h
 obtain⟨m,hn,hl⟩:=I.loc
 have vis:Vis X.env.scope x:=by rcases hx with k | k;exact .inl k;exact .inr (.inl k)
 obtain⟨u,r,l⟩:=hl i x v hi e1 vis
 refine wpAny_AugAssign_Name ?_
 have go:wpAny (model X.prog X.w) X.A (eval e X.env) (fun w s₂=>wpAny (model X.prog X.w) X.A (inplaceOp op u w) (fun r s₃=>wpAny (model X.prog X.w) X.A (storeName X.env x r) (fun _=>SP X Ab D .next) X.xe s₃) X.xe s₂) X.xe s:=by
  refine thn (he Ab s σ H _ I h) fun w s1 ⟨y,H1,I1,r1,q1⟩=>?_
  refine thn (ho Ab s1 σ H1 v y u w _ I1 r r1 q1) fun z s2 ⟨zv,H2,I2,r2,q2⟩=>?_
  exact P3 I2 hN hi hx r2 (fun s3 I3=>⟨_,H2,I3,q2⟩) hf
 rcases l with ⟨hk,hm⟩|⟨hk,c,hc,hcell⟩
 . exact wpAny_loadName_local I.ok.kind hk hn hm go
 . rcases hk with hk | hk
   . exact wpAny_loadName_cell I.ok.kind hk hc hcell go
   . rcases hx with k | k
     . have:X.env.scope.names.lookup x=some .free:=hk
       rw [k] at this;cases this
     . have:X.env.scope.names.lookup x=some .free:=hk
       rw [k] at this;cases this
def ipI (f:Int->Int->Int):TIp:=fun x y H Q=>∃ i j,x=.int i/\y=.int j/\Q (.int (f i j)) H
theorem Bt4:PIp X .Add (ipI fun i j=>i+j):=by
 intro Ab s σ H x y v u Q I r1 r2 h
 obtain⟨i,j,e1,e2,q⟩:=h
 subst e1;subst e2
 obtain⟨t,rfl⟩:=r1
 obtain⟨t',rfl⟩:=r2
 exact iadd_int ⟨.int _,H,I.tok _,⟨_,rfl⟩,q⟩
end
section
variable {X:Cx}{pos:Pos}
def Bn5 (c:TT) (tb:TS):TS:=fun D σ H=>∃ W:Nat->St->Hp->Prop,(∃ m,W m σ H)/\∀ m σ H,W m σ H →
 c σ H fun b H1=>if b=true then ∃ N:St->Hp->Prop,(∀ σ' H',N σ' H'->∃ m',m'<m/\W m' σ' H')/\tb { D with nx:=N,ct:=N,bk:=D.nx } σ H1 else D.nx σ H1
theorem Ae7 {c:Expr}{body:List Stmt}{tc:TT}{tb:TS} (hp:PassesOwn (model X.prog X.w) X.A X.env X.xe) (hc:PT X c tc) (hb:PSs X body tb):PS X (.While c body [] pos) (Bn5 tc tb):=by
 intro Ab s σ H D I h
 obtain⟨W,⟨m0,w0⟩,turn⟩:=h
 refine wpAny_While (codeAny_whileLoop (fun n s'=>∃ σ' H',Inv X Ab σ' H' s'/\W n σ' H') ?_ m0 ⟨σ,H,I,w0⟩)
 rintro n s1 ⟨σ1,H1,I1,w1⟩
 refine wpAny_passesOwn hp (thn (hc Ab s1 σ1 H1 _ I1 (turn n σ1 H1 w1)) fun b s2 ⟨H2,I2,q2⟩=>?_)
 cases b with
 | true =>
   obtain⟨N,hN,q2⟩:=q2
   rw [if_pos rfl]
   refine wpAny_passesOwn hp (thn (hb Ab s2 σ1 H2 _ I2 q2) fun f s3 q3=>?_)
   cases f with
   | next =>
     obtain⟨σ3,H3,I3,n3⟩:=q3
     obtain⟨m',hm,w3⟩:=hN σ3 H3 n3
     exact ⟨m',hm,σ3,H3,I3,w3⟩
   | cont =>
     obtain⟨σ3,H3,I3,n3⟩:=q3
     obtain⟨m',hm,w3⟩:=hN σ3 H3 n3
     exact ⟨m',hm,σ3,H3,I3,w3⟩
   | brk=>exact q3
   | ret v=>exact q3
 | false =>
   rw [if_neg Bool.false_ne_true]
   exact wpAny_execs_nil ⟨σ1,H2,I2,q2⟩
end
structure It where
 go:Nat->Hp->Prop
 yld:Nat->Hp->V->Hp->Prop
 stop:Nat->Hp->Prop
def FpOk (X:Cx) (Ab:List (Addr × Obj)) (H:Hp) (b:Addr):Prop :=
 H b=none/\b≠X.env.locals/\b ∉ X.fs/\(b∈X.ex\/X.s₀.heap.objs.size<=b)/\(∀ x c,X.env.cells.lookup x=some c->c≠b)/\∀ p∈X.pn++Ab,p.1≠b
theorem Inv.fpOk {X:Cx}{Ab:List (Addr × Obj)}{σ:St}{H H':Hp}{s:Shared}{b:Addr} (I:Inv X Ab σ H s) (hb:s.heap.objs.size<=b) (hn:H' b=none):FpOk X Ab H' b:=by
 refine⟨hn,Nat.ne_of_gt (Nat.lt_of_lt_of_le I.lt hb),I.nofs hb,.inr (Nat.le_trans I.sz hb),fun x c e z=>?_,fun p hp z=>?_⟩
 . obtain⟨v,q⟩:=I.cell x c e
   exact absurd (Nat.lt_of_lt_of_le q.lt (by rw [z];exact hb)) (Nat.lt_irrefl _)
 . exact absurd (Nat.lt_of_lt_of_le (Heap.lt_size (I.pin p hp).1) (by rw [z];exact hb)) (Nat.lt_irrefl _)
structure Turn (P:Program) (w:World) (K:W.Frag) (tg:Expr) (J:It) (fp:List Addr) (it:Addr) (tn:Nat->Heap->Prop):Prop where
 mem:it∈fp
 obj:∀ i h,tn i h->∀ b∈fp,∃ o,h.get? b=some o/\∀ v,o.data≠.cell v
 keep:∀ i h h',tn i h->(∀ b∈fp,∀ o,h.get? b=some o->h'.get? b=some o)->tn i h'
 item:∀ (X:Cx),X.prog=P->X.w=w->X.K=K->X.calm=true->∀ (i:Nat) (Ab:List (Addr × Obj)) (s:Shared) (σ:St) (H:Hp) (E:Value->Shared->Prop),Inv X Ab σ H s->(∀ b∈fp,FpOk X Ab H b)->tn i s.heap->J.go i H →
  wpAny (model P w) X.A (pyNext (.ref it)) (fun r s1=>∃ u,r=some u ∧
   wpAny (model P w) X.A (letOwnedTupleGo tg (.ref it) u) (fun _ s2=>∃ x H',Inv X Ab σ H' s2/\RelV x u/\J.yld i H x H'/\tn (i+1) s2.heap/\∀ b∈fp,H' b=none) E s1) E s
 done:∀ (X:Cx),X.prog=P->X.w=w->X.K=K->X.calm=true->∀ (i:Nat) (Ab:List (Addr × Obj)) (s:Shared) (σ:St) (H:Hp) (E:Value->Shared->Prop),Inv X Ab σ H s->(∀ b∈fp,FpOk X Ab H b)->tn i s.heap->J.stop i H →
  wpAny (model P w) X.A (pyNext (.ref it)) (fun r s1=>r=none/\Inv X Ab σ H s1) E s
 self:∀ (A:Around) (i:Nat) (s:Shared) (Q:Value->Shared->Prop) (E:Value->Shared->Prop),tn i s.heap->Q (.ref it) s->wpAny (model P w) A (pyIter (.ref it)) Q E s
abbrev TI:=St->Hp->(It->Hp->Prop)->Prop
def PIE (X:Cx) (Ab:List (Addr × Obj)) (σ:St) (tg:Expr) (R:It->Hp->Prop) (itv:Value) (s2:Shared):Prop :=
 ∃ (it:Addr) (fp:List Addr) (tn:Nat->Heap->Prop) (J:It) (H':Hp),itv=.ref it/\Inv X Ab σ H' s2/\Turn X.prog X.w X.K tg J fp it tn/\tn 0 s2.heap/\(∀ b∈fp,FpOk X Ab H' b)/\R J H'
def PI (X:Cx) (tg iter:Expr) (wi:TI):Prop :=
 ∀ (Ab:List (Addr × Obj)) (s:Shared) (σ:St) (H:Hp) (R:It->Hp->Prop),Inv X Ab σ H s->wi σ H R →
   wpAny (model X.prog X.w) X.A (eval iter X.env) (fun v s1=>wpAny (model X.prog X.w) X.A (pyIter v) (PIE X Ab σ tg R) X.xe s1) X.xe s
theorem Bl0 {M:Model}{A:Around}{E:Value->Shared->Prop}{s:Shared}{tg:Expr}{it:Addr}{u:Value}{o:Obj}{n:String}{vs:Array Value}{Q:Unit->Shared->Prop} (ho:s.heap.get? it=some o) (hc:o.cls=.type n) (hd:o.data=.fields vs)
 (hn:["enumerate","zip","dict_itemiterator","dict_reverseitemiterator","odict_iterator","itertools.zip_longest","itertools.pairwise"].contains n=false) (hQ:Q () s):wpAny M A (letOwnedTupleGo tg (.ref it) u) Q E s:=by
 unfold letOwnedTupleGo
 cases tg<;>first
  | exact wpAny_pure hQ
  | (cases u<;>first
      | exact wpAny_pure hQ
      | (refine wpAny_bind (wpAny_load ho ?_)
         rw [hc,hd]
         show wpAny M A (if (["enumerate","zip","dict_itemiterator","dict_reverseitemiterator","odict_iterator","itertools.zip_longest","itertools.pairwise"].contains n&&vs[0]?==some (rawInt _))=true then _ else _) Q E s
         rw [if_neg (by intro h;rw [hn,Bool.false_and] at h;cases h)]
         exact wpAny_pure hQ))
def Itl (K:W.Frag) (a:Addr):It :=
 ⟨fun i H=>∃ xs x,SqL K H a xs/\xs[i]?=some x,fun i H x H'=>H'=H/\∀ xs,SqL K H a xs->xs[i]?=some x,fun i H=>∃ xs,SqL K H a xs/\xs.length<=i⟩
def Itt (K:W.Frag) (a:Addr):It :=
 ⟨fun i H=>∃ xs x,SqT K H a xs/\xs[i]?=some x,fun i H x H'=>H'=H/\∀ xs,SqT K H a xs->xs[i]?=some x,fun i H=>∃ xs,SqT K H a xs/\xs.length<=i⟩
def Itr (lo:Int) (n:Nat):It:=⟨fun i _=>i<n,fun i H x H'=>H'=H/\x=.int (lo+i),fun i _=>n<=i⟩
theorem As2 {P:Program}{w:World}{K:W.Frag}{tg:Expr} (a it:Addr):Turn P w K tg (Itl K a) [it] it (fun i h=>h.IsListIter it a i) where
 mem:=by simp
 obj:=fun i h st b hb=>by
  have e:b=it:=by simpa using hb
  subst e
  obtain⟨o,e,c,d⟩:=st
  exact ⟨o,e,fun v z=>by rw [d] at z;cases z⟩
 keep:=fun i h h' st k=>st.at fun o e=>k it (by simp) o e
 item:=by
  intro X hP hw hK hc i Ab s σ H E I hf st hg
  subst hP hw hK
  obtain⟨xs,x,hq,hx⟩:=hg
  obtain⟨its,rv,p,hz⟩:=I.list hq
  obtain⟨u,hu,ru⟩:=rv.get hx
  obtain⟨f0,f1,f2,f3,f4,f5⟩:=hf it (by simp)
  refine wpAny_pyNext_list_item st p.isList (x:=u) (by simpa using hu) fun h' st' sb=>?_
  have I1:Inv X Ab σ H { s with heap:=h' }:=I.turned (t':=s.toks) (fun b o hb e=>(sb.2 b hb).trans e) f0 f1 f3 f4 f5
  obtain⟨o,e,c,d⟩:=id st'
  exact ⟨u,rfl,Bl0 (s:={ s with heap:=h' }) e c d (by decide) ⟨x,H,I1,ru,⟨rfl,fun ys hy=>by rw [I.list_inj hy hq];exact hx⟩,st',fun b hb=>(hf b hb).1⟩⟩
 done:=by
  intro X hP hw hK hc i Ab s σ H E I hf st hg
  subst hP hw hK
  obtain⟨xs,hq,hx⟩:=hg
  obtain⟨its,rv,p,hz⟩:=I.list hq
  obtain⟨f0,f1,f2,f3,f4,f5⟩:=hf it (by simp)
  have hl:=rv.length
  exact wpAny_pyNext_list_end (I.ok.hd hc) st p.isList (by simp;omega) fun h' eb=>⟨rfl,I.turned (t':=s.toks) (fun b o hb e=>eb b o hb e) f0 f1 f3 f4 f5⟩
 self:=fun _ _ _ _ _ st h=>wpAny_pyIter_listiter st h
theorem Ah7 {P:Program}{w:World}{K:W.Frag}{tg:Expr} (a it:Addr):Turn P w K tg (Itt K a) [it] it (fun i h=>h.IsTupleIter it a i) where
 mem:=by simp
 obj:=fun i h st b hb=>by
  have e:b=it:=by simpa using hb
  subst e
  obtain⟨o,e,c,d⟩:=st
  exact ⟨o,e,fun v z=>by rw [d] at z;cases z⟩
 keep:=fun i h h' st k=>st.at fun o e=>k it (by simp) o e
 item:=by
  intro X hP hw hK hc i Ab s σ H E I hf st hg
  subst hP hw hK
  obtain⟨xs,x,hq,hx⟩:=hg
  obtain⟨its,rv,p,hz⟩:=I.tuple hq
  obtain⟨u,hu,ru⟩:=rv.get hx
  obtain⟨f0,f1,f2,f3,f4,f5⟩:=hf it (by simp)
  refine wpAny_pyNext_tuple_item st (show s.heap.IsTuple a its.toArray from p) (x:=u) (by simpa using hu) fun h' st' sb=>?_
  have I1:Inv X Ab σ H { s with heap:=h' }:=I.turned (t':=s.toks) (fun b o hb e=>(sb.2 b hb).trans e) f0 f1 f3 f4 f5
  obtain⟨o,e,c,d⟩:=id st'
  exact ⟨u,rfl,Bl0 (s:={ s with heap:=h' }) e c d (by decide) ⟨x,H,I1,ru,⟨rfl,fun ys hy=>by rw [I.tuple_inj hy hq];exact hx⟩,st',fun b hb=>(hf b hb).1⟩⟩
 done:=by
  intro X hP hw hK hc i Ab s σ H E I hf st hg
  subst hP hw hK
  obtain⟨xs,hq,hx⟩:=hg
  obtain⟨its,rv,p,hz⟩:=I.tuple hq
  obtain⟨f0,f1,f2,f3,f4,f5⟩:=hf it (by simp)
  have hl:=rv.length
  exact wpAny_pyNext_tuple_end (I.ok.hd hc) st (show s.heap.IsTuple a its.toArray from p) (by simp;omega) fun h' eb=>⟨rfl,I.turned (t':=s.toks) (fun b o hb e=>eb b o hb e) f0 f1 f3 f4 f5⟩
 self:=fun _ _ _ _ _ st h=>wpAny_pyIter_tupleiter st h
theorem Ah8 {P:Program}{w:World}{K:W.Frag}{tg:Expr} (it:Addr) (lo:Int) (n:Nat):Turn P w K tg (Itr lo n) [it] it (fun i h=>IsRangeIter h it (lo+(i:Nat)*1) ((n:Int)-(i:Nat)) 1) where
 mem:=by simp
 obj:=fun i h st b hb=>by
  have e:b=it:=by simpa using hb
  subst e
  exact ⟨_,st,fun v z=>by
   have z':Data.fields _=Data.cell v:=z
   cases z'⟩
 keep:=fun i h h' st k=>k it (by simp) _ st
 item:=by
  intro X hP hw hK hc i Ab s σ H E I hf st hg
  subst hP hw hK
  obtain⟨f0,f1,f2,f3,f4,f5⟩:=hf it (by simp)
  have W:=Walks.range (prog:=X.prog) (w:=X.w) (I.ok.hd hc) it lo 1 n
  refine W.item i s _ _ hg st fun v h' tk hv st' kk=>?_
  obtain⟨t,rfl⟩:=hv
  have I1:Inv X Ab σ H { s with heap:=h',toks:=tk }:=I.turned (fun b o hb e=>kk b o (by simpa using hb) e) f0 f1 f3 f4 f5
  refine⟨_,rfl,Bl0 (s:={ s with heap:=h',toks:=tk }) (n:="range_iterator") st' rfl rfl (by decide) ⟨.int (lo+i),H,I1,⟨t,?_⟩,⟨rfl,rfl⟩,st',fun b hb=>(hf b hb).1⟩⟩
  rw [Int.mul_one]
 done:=by
  intro X hP hw hK hc i Ab s σ H E I hf st hg
  subst hP hw hK
  obtain⟨f0,f1,f2,f3,f4,f5⟩:=hf it (by simp)
  exact wpAny_pyNext_range_end (I.ok.hd hc) st (by have:n<=i:=hg;omega) fun h' eb=>⟨rfl,I.turned (t':=s.toks) (fun b o hb e=>eb b o hb e) f0 f1 f3 f4 f5⟩
 self:=fun _ _ _ _ _ st h=>wpAny_pyIter_rangeiter st h
end L2
namespace L2
open PySem PySem.Spec PyProof.Rows
section
variable {X:Cx}{tg:Expr}
def Bt6 (K:W.Frag) (tl:TE):TI:=fun σ H R=>tl σ H fun x H1=>∃ a,x=.ref a/\(∃ xs,SqL K H1 a xs)/\R (Itl K a) H1
def iTup (K:W.Frag) (tl:TE):TI:=fun σ H R=>tl σ H fun x H1=>∃ a,x=.ref a/\(∃ xs,SqT K H1 a xs)/\R (Itt K a) H1
theorem Bh4 {l:Expr}{tl:TE} (hl:PE X l tl):PI X tg l (Bt6 X.K tl):=by
 intro Ab s σ H R I h
 refine thn (hl Ab s σ H _ I h) fun v s1 ⟨x,H1,I1,r1,q1⟩=>?_
 obtain⟨a,e,⟨xs,hq⟩,q⟩:=q1
 subst e
 cases r1
 obtain⟨its,rv,p,hz⟩:=I1.list hq
 refine wpAny_pyIter_list p.isList ?_
 refine⟨s1.heap.objs.size,[s1.heap.objs.size],_,_,H1,rfl,I1.kept (t':=s1.toks) fun b o e=>Heap.get?_push_of_some _ e,As2 a _,⟨_,Heap.get?_push_size _ rfl,rfl,rfl⟩,fun b hb=>?_,q⟩
 have e:b=s1.heap.objs.size:=by simpa using hb
 subst e
 exact I1.fpOk (Nat.le_refl _) (I1.hok.fresh (Nat.le_refl _))
theorem Bq0 {l:Expr}{tl:TE} (hl:PE X l tl):PI X tg l (iTup X.K tl):=by
 intro Ab s σ H R I h
 refine thn (hl Ab s σ H _ I h) fun v s1 ⟨x,H1,I1,r1,q1⟩=>?_
 obtain⟨a,e,⟨xs,hq⟩,q⟩:=q1
 subst e
 cases r1
 obtain⟨its,rv,p,hz⟩:=I1.tuple hq
 refine wpAny_pyIter_tuple (show s1.heap.IsTuple a its.toArray from p) ?_
 refine⟨s1.heap.objs.size,[s1.heap.objs.size],_,_,H1,rfl,I1.kept (t':=s1.toks) fun b o e=>Heap.get?_push_of_some _ e,Ah7 a _,⟨_,Heap.get?_push_size _ rfl,rfl,rfl⟩,fun b hb=>?_,q⟩
 have e:b=s1.heap.objs.size:=by simpa using hb
 subst e
 exact I1.fpOk (Nat.le_refl _) (I1.hok.fresh (Nat.le_refl _))
theorem Ae6 {Ab:List (Addr × Obj)}{σ:St}{H:Hp}{s:Shared}{R:It->Hp->Prop}{E:Value->Shared->Prop}{lo hi:Int}{t u v:Tok}{tk:Nat} (I:Inv X Ab σ H s) (h1:-(2 ^ 62)<=lo) (h2:lo<2 ^ 62) (h3:-(2 ^ 62)<=hi) (h4:hi<2 ^ 62)
 (q:R (Itr lo (hi-lo).toNat) H):wpAny (model X.prog X.w) X.A (pyIter (.ref s.heap.objs.size)) (PIE X Ab σ tg R) E { s with heap:=s.heap.push { cls:=.type "range",data:=.fields #[.int lo t,.int hi u,.int 1 v] },toks:=tk }:=by
 refine wpAny_pyIter_range (IsRange.new ..) (small_one h1 h2 h3 h4) ?_
 have I1:Inv X Ab σ H { s with heap:=s.heap.push { cls:=.type "range",data:=.fields #[.int lo t,.int hi u,.int 1 v] },toks:=tk }:=I.kept fun b o e=>Heap.get?_push_of_some _ e
 refine⟨(s.heap.push { cls:=.type "range",data:=.fields #[.int lo t,.int hi u,.int 1 v] }).objs.size,[(s.heap.push { cls:=.type "range",data:=.fields #[.int lo t,.int hi u,.int 1 v] }).objs.size],_,_,H,rfl,
  I1.kept (t':=tk) fun b o e=>Heap.get?_push_of_some _ e,Ah8 _ lo (hi-lo).toNat,?_,fun b hb=>?_,q⟩
 . have e1:lo+((0:Nat):Int)*1=lo:=by simp
   have e2:(((hi-lo).toNat:Nat):Int)-((0:Nat):Int)=Builtin.Range.rangeSize lo hi 1:=by rw [rangeSize_one];split<;>omega
   show IsRangeIter _ _ (lo+((0:Nat):Int)*1) ((((hi-lo).toNat:Nat):Int)-((0:Nat):Int)) 1
   rw [e1,e2]
   exact Heap.get?_push_size _ rfl
 . have e:b=(s.heap.push { cls:=.type "range",data:=.fields #[.int lo t,.int hi u,.int 1 v] }).objs.size:=by simpa using hb
   subst e
   exact I1.fpOk (Nat.le_refl _) (I1.hok.fresh (Nat.le_refl _))
def Bw7 (ta:TA):TI:=fun σ H R=>ta σ H fun vs H1=>∃ j:Int,vs=[.int j]/\-(2 ^ 62)<=j/\j<2 ^ 62/\R (Itr 0 j.toNat) H1
def Bw6 (ta:TA):TI:=fun σ H R=>ta σ H fun vs H1=>∃ i j:Int,vs=[.int i,.int j]/\(-(2 ^ 62)<=i/\i<2 ^ 62/\-(2 ^ 62)<=j/\j<2 ^ 62)/\R (Itr i (j-i).toNat) H1
theorem Cu {a:Expr}{ta:TA}{p pos:Pos} (hg:Gl X "range") (hm:X.mg "range"=none) (ha:PA X [a] ta) (hs:starEach [a] X.env=[(false,eval a X.env)]:=by rfl):PI X tg (.Call (.Name "range" p) [a] [] pos) (Bw7 ta):=by
 intro Ab s σ H R I h
 refine Call_ (O2 I hg hm boot_range (PyProof.Rows.callWith_type1 (thn (ha pos Ab s σ H _ I h) fun us s1 ⟨vs,H1,I1,r1,q1⟩=>?_) hs rfl))
 obtain⟨j,e,q1,q2,q⟩:=q1
 subst e
 cases r1 with
 | cons r rr =>
   cases rr
   obtain⟨t,rfl⟩:=r
   exact call_range_1 (Ae6 I1 (by omega) (by omega) q1 q2 (by simpa using q))
theorem Mq {a b:Expr}{ta:TA}{p pos:Pos} (hg:Gl X "range") (hm:X.mg "range"=none) (ha:PA X [a,b] ta) (hs:starEach [a,b] X.env=[(false,eval a X.env),(false,eval b X.env)]:=by rfl) (hs2:starEach [b] X.env=[(false,eval b X.env)]:=by rfl) :
 PI X tg (.Call (.Name "range" p) [a,b] [] pos) (Bw6 ta):=by
 intro Ab s σ H R I h
 refine Call_ (O2 I hg hm boot_range (PyProof.Rows.callWith_type1 (thn (ha pos Ab s σ H _ I h) fun us s1 ⟨vs,H1,I1,r1,q1⟩=>?_) (by rw [hs,hs2]) (by rw [hs2];rfl)))
 obtain⟨i,j,e,⟨q1,q2,q3,q4⟩,q⟩:=q1
 subst e
 cases r1 with
 | cons r rr =>
   cases rr with
   | cons r' rr =>
     cases rr
     obtain⟨t,rfl⟩:=r
     obtain⟨t',rfl⟩:=r'
     exact call_range_2 (Ae6 I1 q1 q2 q3 q4 q)
def tFor (wi:TI) (g:TG) (tb:TS):TS:=fun D σ H=>wi σ H fun J H1=>∃ W:Nat->Nat->St->Hp->Prop,(∃ m,W 0 m σ H1)/\∀ i m σ H,W i m σ H →
 (J.stop i H/\D.nx σ H)\/(J.go i H/\∃ N:St->Hp->Prop,(∀ σ' H',N σ' H'->∃ m',m'<m/\W (i+1) m' σ' H')/\∀ x H',J.yld i H x H'->g x σ H' fun σ2 H2=>tb { D with nx:=N,ct:=N,bk:=D.nx } σ2 H2)
def Zj (fp:List Addr) (h:Heap):List (Addr × Obj):=fp.filterMap fun b=>(h.get? b).map fun o=>(b,o)
theorem Kw {fp:List Addr}{h:Heap}{b:Addr}{o:Obj} (hb:b∈fp) (e:h.get? b=some o):(b,o)∈Zj fp h:=List.mem_filterMap.mpr ⟨b,hb,by rw [e];rfl⟩
theorem Aw7 {fp:List Addr}{h:Heap}{p:Addr × Obj} (hp:p∈Zj fp h):p.1∈fp/\h.get? p.1=some p.2:=by
 obtain⟨b,hb,e⟩:=List.mem_filterMap.mp hp
 cases q:h.get? b with
 | none=>rw [q] at e;cases e
 | some o =>
   rw [q] at e
   have e':(b,o)=p:=Option.some.inj e
   subst e'
   exact ⟨hb,q⟩
theorem Inv.pinned {Ab:List (Addr × Obj)}{σ:St}{H:Hp}{s:Shared}{fp:List Addr} (I:Inv X Ab σ H s) (hf:∀ b∈fp,FpOk X Ab H b) (ho:∀ b∈fp,∃ o,s.heap.get? b=some o/\∀ v,o.data≠.cell v):Inv X (Ab++Zj fp s.heap) σ H s :=
 I.pins_of fun p hp=>(List.mem_append.mp hp).elim (fun z=>I.pin p (List.mem_append_right _ z)) fun z=>by
  obtain⟨hb,e⟩:=Aw7 z
  obtain⟨f0,f1,f2,_⟩:=hf p.1 hb
  obtain⟨o,e',d⟩:=ho p.1 hb
  rw [e] at e';cases e'
  exact ⟨e,f0,f1,f2,d⟩
theorem Inv.unpinned {Ab pl:List (Addr × Obj)}{σ:St}{H:Hp}{s:Shared} (I:Inv X (Ab++pl) σ H s):Inv X Ab σ H s:=I.pins_of fun p hp=>I.pin p (List.mem_append_right _ (List.mem_append_left _ hp))
theorem D1 {iter:Expr}{body:List Stmt}{wi:TI}{g:TG}{tb:TS}{pos:Pos} (hp:PassesOwn (model X.prog X.w) X.A X.env X.xe) (hc:X.calm=true) (hi:PI X tg iter wi) (hg:PG X tg g) (hb:PSs X body tb)
 (hs:∀ x,foldedSetIterable iter X.env x=pure x:=by intro _;rfl):PS X (.For tg iter body [] pos) (tFor wi g tb):=by
 intro Ab s σ H D I h
 refine wpAny_For (thn (hi Ab s σ H _ I h) fun v s1 h1=>thn h1 fun itv s2 h2=>?_) hs
 obtain⟨it,fp,tn,J,H2,e,I2,T,st2,f2,W,⟨m0,w0⟩,turn⟩:=h2
 subst e
 have stat:∀{H':Hp},(∀ b∈fp,H' b=none)->∀ b∈fp,FpOk X Ab H' b:=fun hn b hb=>⟨hn b hb,(f2 b hb).2⟩
 refine codeAny_forLoop_any (fun n s'=>∃ i σ' H',Inv X Ab σ' H' s'/\tn i s'.heap/\(∀ b∈fp,H' b=none)/\W i n σ' H') ?_ m0 ⟨0,σ,H2,I2,st2,fun b hb=>(f2 b hb).1,w0⟩
 rintro n s3 ⟨i,σ3,H3,I3,st3,fr3,w3⟩
 rcases turn i n σ3 H3 w3 with ⟨stop,qn⟩|⟨go,N,hN,step⟩
 . refine wpAny_passesOwn hp (thn (T.done X rfl rfl rfl hc i Ab s3 σ3 H3 X.xe I3 (stat fr3) st3 stop) fun r s4 ⟨hr,I4⟩=>?_)
   subst hr
   exact wpAny_execs_nil ⟨σ3,H3,I4,qn⟩
 . refine wpAny_passesOwn hp (thn (T.item X rfl rfl rfl hc i Ab s3 σ3 H3 X.xe I3 (stat fr3) st3 go) fun r s4 ⟨u,hr,h4⟩=>?_)
   subst hr
   refine wpAny_passesOwn hp (thn h4 fun _ s5 ⟨x,H5,I5,r5,y5,st5,fr5⟩=>?_)
   have I5':=I5.pinned (stat fr5) (T.obj _ _ st5)
   refine wpAny_passesOwn hp (thn (hg _ s5 σ3 H5 x u _ I5' r5 (step x H5 y5)) fun _ s6 ⟨σ6,H6,I6,q6⟩=>?_)
   refine wpAny_passesOwn hp (thn (hb _ s6 σ6 H6 _ I6 q6) fun f s7 q7=>?_)
   have again:∀{σ7:St}{H7:Hp},Inv X (Ab++Zj fp s5.heap) σ7 H7 s7->N σ7 H7->∃ m,m<n/\∃ i σ' H',Inv X Ab σ' H' s7/\tn i s7.heap/\(∀ b∈fp,H' b=none)/\W i m σ' H':=fun {σ7 H7} I7 n7=>by
    obtain⟨m',hm,w7⟩:=hN σ7 H7 n7
    refine⟨m',hm,i+1,σ7,H7,I7.unpinned,T.keep _ _ _ st5 fun b hb o e=>(I7.pin (b,o) (List.mem_append_right _ (List.mem_append_right _ (Kw hb e)))).1,fun b hb=>?_,w7⟩
    obtain⟨o,e,d⟩:=T.obj _ _ st5 b hb
    exact (I7.pin (b,o) (List.mem_append_right _ (List.mem_append_right _ (Kw hb e)))).2.1
   cases f with
   | next=>obtain⟨σ7,H7,I7,n7⟩:=q7;exact again I7 n7
   | cont=>obtain⟨σ7,H7,I7,n7⟩:=q7;exact again I7 n7
   | brk=>obtain⟨σ7,H7,I7,q7⟩:=q7;exact ⟨σ7,H7,I7.unpinned,q7⟩
   | ret v=>obtain⟨x7,σ7,H7,I7,r7,q7⟩:=q7;exact ⟨x7,σ7,H7,I7.unpinned,r7,q7⟩
end
theorem for_list {K:W.Frag}{a:Addr}{xs:List V}{g:TG}{tb:TS}{D:Ends}{σ:St}{H:Hp} (Pv:Nat->St->Hp->Prop) (h0:Pv 0 σ H) (hl:∀ i σ H,i<=xs.length->Pv i σ H->SqL K H a xs)
 (hs:∀ i x σ H,xs[i]?=some x->Pv i σ H->g x σ H fun σ2 H2=>tb { D with nx:=Pv (i+1),ct:=Pv (i+1),bk:=D.nx } σ2 H2) (hd:∀ σ H,Pv xs.length σ H->D.nx σ H) :
 ∃ W:Nat->Nat->St->Hp->Prop,(∃ m,W 0 m σ H)/\∀ i m σ H,W i m σ H →
   ((Itl K a).stop i H/\D.nx σ H)\/((Itl K a).go i H/\∃ N:St->Hp->Prop,(∀ σ' H',N σ' H'->∃ m',m'<m/\W (i+1) m' σ' H')/\∀ x H',(Itl K a).yld i H x H'->g x σ H' fun σ2 H2=>tb { D with nx:=N,ct:=N,bk:=D.nx } σ2 H2):=by
 refine⟨fun i m σ H=>m=xs.length-i/\i<=xs.length/\Pv i σ H,⟨xs.length,by simp,Nat.zero_le _,h0⟩,?_⟩
 rintro i m σ H ⟨rfl,hi,p⟩
 have q:=hl i σ H hi p
 by_cases hlt:i<xs.length
 . refine .inr ⟨⟨xs,xs[i],q,by simp [hlt]⟩,Pv (i+1),fun σ' H' p'=>⟨xs.length-(i+1),by omega,rfl,hlt,p'⟩,fun x H' y=>?_⟩
   obtain⟨e,y⟩:=y
   subst e
   exact hs i x σ _ (y xs q) p
 . have e:i=xs.length:=by omega
   subst e
   exact .inl ⟨⟨xs,q,Nat.le_refl _⟩,hd σ H p⟩
theorem Bl4 {K:W.Frag}{a:Addr}{xs:List V}{g:TG}{tb:TS}{D:Ends}{σ:St}{H:Hp} (Pv:Nat->St->Hp->Prop) (h0:Pv 0 σ H) (hl:∀ i σ H,i<=xs.length->Pv i σ H->SqT K H a xs)
 (hs:∀ i x σ H,xs[i]?=some x->Pv i σ H->g x σ H fun σ2 H2=>tb { D with nx:=Pv (i+1),ct:=Pv (i+1),bk:=D.nx } σ2 H2) (hd:∀ σ H,Pv xs.length σ H->D.nx σ H) :
 ∃ W:Nat->Nat->St->Hp->Prop,(∃ m,W 0 m σ H)/\∀ i m σ H,W i m σ H →
   ((Itt K a).stop i H/\D.nx σ H)\/((Itt K a).go i H/\∃ N:St->Hp->Prop,(∀ σ' H',N σ' H'->∃ m',m'<m/\W (i+1) m' σ' H')/\∀ x H',(Itt K a).yld i H x H'->g x σ H' fun σ2 H2=>tb { D with nx:=N,ct:=N,bk:=D.nx } σ2 H2):=by
 refine⟨fun i m σ H=>m=xs.length-i/\i<=xs.length/\Pv i σ H,⟨xs.length,by simp,Nat.zero_le _,h0⟩,?_⟩
 rintro i m σ H ⟨rfl,hi,p⟩
 have q:=hl i σ H hi p
 by_cases hlt:i<xs.length
 . refine .inr ⟨⟨xs,xs[i],q,by simp [hlt]⟩,Pv (i+1),fun σ' H' p'=>⟨xs.length-(i+1),by omega,rfl,hlt,p'⟩,fun x H' y=>?_⟩
   obtain⟨e,y⟩:=y
   subst e
   exact hs i x σ _ (y xs q) p
 . have e:i=xs.length:=by omega
   subst e
   exact .inl ⟨⟨xs,q,Nat.le_refl _⟩,hd σ H p⟩
theorem C9 {lo:Int}{n:Nat}{g:TG}{tb:TS}{D:Ends}{σ:St}{H:Hp} (Pv:Nat->St->Hp->Prop) (h0:Pv 0 σ H)
 (hs:∀ i σ H,i<n->Pv i σ H->g (.int (lo+i)) σ H fun σ2 H2=>tb { D with nx:=Pv (i+1),ct:=Pv (i+1),bk:=D.nx } σ2 H2) (hd:∀ σ H,Pv n σ H->D.nx σ H) :
 ∃ W:Nat->Nat->St->Hp->Prop,(∃ m,W 0 m σ H)/\∀ i m σ H,W i m σ H →
   ((Itr lo n).stop i H/\D.nx σ H)\/((Itr lo n).go i H/\∃ N:St->Hp->Prop,(∀ σ' H',N σ' H'->∃ m',m'<m/\W (i+1) m' σ' H')/\∀ x H',(Itr lo n).yld i H x H'->g x σ H' fun σ2 H2=>tb { D with nx:=N,ct:=N,bk:=D.nx } σ2 H2):=by
 refine⟨fun i m σ H=>m=n-i/\i<=n/\Pv i σ H,⟨n,by simp,Nat.zero_le _,h0⟩,?_⟩
 rintro i m σ H ⟨rfl,hi,p⟩
 by_cases hlt:i<n
 . refine .inr ⟨hlt,Pv (i+1),fun σ' H' p'=>⟨n-(i+1),by omega,rfl,hlt,p'⟩,fun x H' y=>?_⟩
   obtain⟨e,y⟩:=y
   subst e y
   exact hs i σ _ hlt p
 . have e:i=n:=by omega
   subst e
   exact .inl ⟨Nat.le_refl _,hd σ H p⟩
end L2
namespace L2
open PySem PySem.Spec PyProof.Rows
abbrev R2:=V->V->Hp->VK->Prop
def OpR (X:Cx) (f:Value->Value->Sem Value) (r:R2):Prop :=
 ∀ (Ab:List (Addr × Obj)) (s:Shared) (σ:St) (H:Hp) (x y:V) (v u:Value) (Q:VK),Inv X Ab σ H s->RelV x v->RelV y u->r x y H Q →
   wpAny (model X.prog X.w) X.A (f v u) (EP X Ab σ Q) X.xe s
def UnR (X:Cx) (f:Value->Sem Value) (r:V->Hp->VK->Prop):Prop :=
 ∀ (Ab:List (Addr × Obj)) (s:Shared) (σ:St) (H:Hp) (x:V) (v:Value) (Q:VK),Inv X Ab σ H s->RelV x v->r x H Q →
   wpAny (model X.prog X.w) X.A (f v) (EP X Ab σ Q) X.xe s
def Hl (X:Cx) (f:Value) (r:List V->Hp->VK->Prop):Prop :=
 ∀ (Ab:List (Addr × Obj)) (s:Shared) (σ:St) (H:Hp) (xs:List V) (us:List Value) (Q:VK),Inv X Ab σ H s->Vals xs us->r xs H Q →
   wpAny (model X.prog X.w) X.A (call f us) (EP X Ab σ Q) X.xe s
def tOp (r:R2) (ta tb:TE):TE:=fun σ H Q=>ta σ H fun x H1=>tb σ H1 fun y H2=>r x y H2 Q
def tUn (r:V->Hp->VK->Prop) (ta:TE):TE:=fun σ H Q=>ta σ H fun x H1=>r x H1 Q
def rI (C:Int->Int->Prop) (g:Int->Int->V):R2:=fun x y H Q=>∃ i j,x=.int i/\y=.int j/\C i j/\Q (g i j) H
def rI0 (g:Int->Int->V):R2:=fun x y H Q=>∃ i j,x=.int i/\y=.int j/\Q (g i j) H
def rU (g:Int->V):V->Hp->VK->Prop:=fun x H Q=>∃ i,x=.int i/\Q (g i) H
section
variable {X:Cx}{a b c:Expr}{ta tb tc:TE}{pos:Pos}
theorem binT (ha:PE X a ta) (hb:PE X b tb) {Ab:List (Addr × Obj)}{s:Shared}{σ:St}{H:Hp}{R:V->V->Hp->Prop} (I:Inv X Ab σ H s)
 (h:ta σ H fun x H1=>tb σ H1 fun y H2=>R x y H2) {Q:Value->Shared->Prop}{f:Value->Value->Sem Value}
 (hf:∀ v u s2 x y H2,Inv X Ab σ H2 s2->RelV x v->RelV y u->R x y H2->wpAny (model X.prog X.w) X.A (f v u) Q X.xe s2) :
 wpAny (model X.prog X.w) X.A (eval a X.env) (fun v s₁=>wpAny (model X.prog X.w) X.A (eval b X.env) (fun u s₂=>wpAny (model X.prog X.w) X.A (f v u) Q X.xe s₂) X.xe s₁) X.xe s:=by
 refine thn (ha Ab s σ H _ I h) fun v s1 ⟨x,H1,I1,r1,q1⟩=>?_
 refine thn (hb Ab s1 σ H1 _ I1 q1) fun u s2 ⟨y,H2,I2,r2,q2⟩=>?_
 exact hf v u s2 x y H2 I2 r1 r2 q2
theorem Bf {op:Operator}{r:R2} (ho:OpR X (binaryOp op) r) (ha:PE X a ta) (hb:PE X b tb):PE X (.BinOp a op b pos) (tOp r ta tb):=by
 intro Ab s σ H Q I h
 exact wpAny_BinOp (binT ha hb I h fun v u s2 x y H2 I2 rx ry q=>ho Ab s2 σ H2 x y v u Q I2 rx ry q)
theorem Av6 {op:UnaryOp}{r:V->Hp->VK->Prop} (ho:UnR X (unaryOp op) r) (ha:PE X a ta):PE X (.UnaryOp op a pos) (tUn r ta):=by
 intro Ab s σ H Q I h
 exact UnaryOp_ (thn (ha Ab s σ H _ I h) fun v s1 ⟨x,H1,I1,r1,q1⟩=>ho Ab s1 σ H1 x v Q I1 r1 q1)
theorem opI {f:Value->Value->Sem Value}{C:Int->Int->Prop}{g:Int->Int->Int}
 (rule:∀ (i j:Int) (t u:Tok) (s:Shared) (Q:Value->Shared->Prop) (E:Value->Shared->Prop),C i j->Q (.int (g i j) s.toks) { s with toks:=s.toks+1 }->wpAny (model X.prog X.w) X.A (f (.int i t) (.int j u)) Q E s) :
 OpR X f (rI C fun i j=>.int (g i j)):=by
 intro Ab s σ H x y v u Q I rx ry h
 obtain⟨i,j,rfl,rfl,hc,q⟩:=h
 obtain⟨t,rfl⟩:=rx
 obtain⟨t',rfl⟩:=ry
 exact rule i j t t' s _ _ hc ⟨.int (g i j),H,I.tok _,⟨_,rfl⟩,q⟩
theorem opI0 {f:Value->Value->Sem Value}{g:Int->Int->Int}
 (rule:∀ (i j:Int) (t u:Tok) (s:Shared) (Q:Value->Shared->Prop) (E:Value->Shared->Prop),Q (.int (g i j) s.toks) { s with toks:=s.toks+1 }->wpAny (model X.prog X.w) X.A (f (.int i t) (.int j u)) Q E s) :
 OpR X f (rI0 fun i j=>.int (g i j)):=by
 intro Ab s σ H x y v u Q I rx ry h
 obtain⟨i,j,rfl,rfl,q⟩:=h
 obtain⟨t,rfl⟩:=rx
 obtain⟨t',rfl⟩:=ry
 exact rule i j t t' s _ _ ⟨.int (g i j),H,I.tok _,⟨_,rfl⟩,q⟩
theorem opB0 {f:Value->Value->Sem Value}{g:Int->Int->Bool}
 (rule:∀ (i j:Int) (t u:Tok) (s:Shared) (Q:Value->Shared->Prop) (E:Value->Shared->Prop),Q (.bool (g i j)) s->wpAny (model X.prog X.w) X.A (f (.int i t) (.int j u)) Q E s) :
 OpR X f (rI0 fun i j=>.bl (g i j)):=by
 intro Ab s σ H x y v u Q I rx ry h
 obtain⟨i,j,rfl,rfl,q⟩:=h
 obtain⟨t,rfl⟩:=rx
 obtain⟨t',rfl⟩:=ry
 exact rule i j t t' s _ _ ⟨.bl (g i j),H,I,rfl,q⟩
def CDiv (i j:Int):Prop:=0<j/\j<1073741824
def CPow (i j:Int):Prop:=0<=j/\j<=1000000/\i.natAbs<2 ^ 64
def CMul (i j:Int):Prop:=(-(2 ^ 64)<i/\i<2 ^ 64)\/(-(2 ^ 64)<j/\j<2 ^ 64)
theorem CMul.ok {i j:Int} (h:CMul i j):IntMulOk i j:=by
 rcases h with ⟨h1,h2⟩|⟨h1,h2⟩
 . exact .of_left (intBits_le_64 h1 h2)
 . exact .of_right (intBits_le_64 h1 h2)
theorem Ew:OpR X (binaryOp .Add) (rI0 fun i j=>.int (i+j)):=opI0 fun _ _ _ _ _ _ _ q=>add_int q
theorem Lb:OpR X (binaryOp .Sub) (rI0 fun i j=>.int (i-j)):=opI0 fun _ _ _ _ _ _ _ q=>sub_int q
theorem C8:OpR X (binaryOp .FloorDiv) (rI CDiv fun i j=>.int (i / j)):=opI fun i j _ _ _ _ _ hc q=>by
 have h1:(0:Int)<j:=hc.1
 have h2:j<1073741824:=hc.2
 exact floordiv_int (by omega) (by rw [Int.fdiv_eq_ediv_of_nonneg i (by omega)];exact q) (.inl (PyProof.noPylong_small (by omega)))
theorem Br:OpR X (binaryOp .Mod) (rI (fun _ j=>0<j) fun i j=>.int (i%j)):=opI fun i j _ _ _ _ _ hc q=>by
 have h1:(0:Int)<j:=hc
 exact mod_int' (by omega) (by rw [Int.fmod_eq_emod_of_nonneg i (by omega)];exact q)
theorem Bq4:OpR X (binaryOp .Pow) (rI CPow fun i j=>.int (i ^ j.toNat)):=opI fun _ _ _ _ _ _ _ hc q=>pow_int_small hc.1 hc.2.1 hc.2.2 q
theorem unI {f:Value->Sem Value}{g:Int->Int}
 (rule:∀ (i:Int) (t:Tok) (s:Shared) (Q:Value->Shared->Prop) (E:Value->Shared->Prop),Q (.int (g i) s.toks) { s with toks:=s.toks+1 }->wpAny (model X.prog X.w) X.A (f (.int i t)) Q E s) :
 UnR X f (rU fun i=>.int (g i)):=by
 intro Ab s σ H x v Q I rx h
 obtain⟨i,rfl,q⟩:=h
 obtain⟨t,rfl⟩:=rx
 exact rule i t s _ _ ⟨.int (g i),H,I.tok _,⟨_,rfl⟩,q⟩
theorem Y3:UnR X (unaryOp .USub) (rU fun i=>.int (-i)):=unI fun _ _ _ _ _ q=>neg_int q
end
def scal:V->V->Bool
 | .non,.non=>true | .non,.int _=>true | .int _,.non=>true | .non,.bl _=>true | .bl _,.non=>true | .non,.str _=>true | .str _,.non=>true
 | .int _,.int _=>true | .bl _,.bl _=>true | .str _,.str _=>true | .byt _,.byt _=>true
 | .int _,.str _=>true | .str _,.int _=>true | .bl _,.str _=>true | .str _,.bl _=>true
 | _,_=>false
def rEq:R2:=fun x y H Q=>scal x y=true/\Q (.bl (decide (x=y))) H
def rNe:R2:=fun x y H Q=>scal x y=true/\Q (.bl (!decide (x=y))) H
theorem A29 {i j:Int}:decide (V.int i=V.int j)=(i==j):=by
 rw [Bool.eq_iff_iff]
 simp
theorem Be4 {i j:Bool}:decide (V.bl i=V.bl j)=(i==j):=by
 rw [Bool.eq_iff_iff]
 simp
theorem A28 {i j:Str}:decide (V.str i=V.str j)=(i==j):=by
 rw [Bool.eq_iff_iff]
 simp
theorem A30 {i j:Array UInt8}:decide (V.byt i=V.byt j)=(i.toList==j.toList):=by
 rw [Bool.eq_iff_iff]
 cases i
 cases j
 simp
section
variable {X:Cx}{a b c:Expr}{ta tb tc:TE}{pos:Pos}
theorem B3 {Ab:List (Addr × Obj)}{σ:St}{H:Hp}{s:Shared}{Q:VK}{k k':Bool} (I:Inv X Ab σ H s) (q:Q (.bl k) H) (e:k=k'):EP X Ab σ Q (.bool k') s:=by
 subst e
 exact ⟨.bl k,H,I,rfl,q⟩
theorem Dk:OpR X (compareOp .Eq) rEq:=by
 intro Ab s σ H x y v u Q I rx ry h
 obtain⟨hs,q⟩:=h
 cases x with
 | non =>
   cases rx
   cases y with
   | non=>cases ry;exact PySem.EqNone.eq_none_none (B3 I q (by simp))
   | bl j=>cases ry;exact PySem.EqNone.eq_none_bool (B3 I q (by simp))
   | int j=>obtain⟨t',rfl⟩:=ry;exact PySem.EqNone.eq_none_int (B3 I q (by simp))
   | str j=>obtain⟨t',rfl⟩:=ry;exact PySem.EqNone.eq_none_str (B3 I q (by simp))
   | _=>exact absurd (show false=true from hs) Bool.false_ne_true
 | bl i =>
   cases rx
   cases y with
   | non=>cases ry;exact PySem.EqNone.eq_bool_none (B3 I q (by simp))
   | bl j=>cases ry;exact eq_bool (B3 I q Be4)
   | str j=>obtain⟨t',rfl⟩:=ry;exact PySem.EqMixed.eq_bool_str (B3 I q (by simp))
   | _=>exact absurd (show false=true from hs) Bool.false_ne_true
 | int i =>
   obtain⟨t,rfl⟩:=rx
   cases y with
   | non=>cases ry;exact PySem.EqNone.eq_int_none (B3 I q (by simp))
   | int j=>obtain⟨t',rfl⟩:=ry;exact eq_int (B3 I q A29)
   | str j=>obtain⟨t',rfl⟩:=ry;exact PySem.EqMixed.eq_int_str (B3 I q (by simp))
   | _=>exact absurd (show false=true from hs) Bool.false_ne_true
 | str i =>
   obtain⟨t,rfl⟩:=rx
   cases y with
   | non=>cases ry;exact PySem.EqNone.eq_str_none (B3 I q (by simp))
   | bl j=>cases ry;exact PySem.EqMixed.eq_str_bool (B3 I q (by simp))
   | int j=>obtain⟨t',rfl⟩:=ry;exact PySem.EqMixed.eq_str_int (B3 I q (by simp))
   | str j=>obtain⟨t',rfl⟩:=ry;exact eq_str (B3 I q A28)
   | _=>exact absurd (show false=true from hs) Bool.false_ne_true
 | byt i =>
   obtain⟨t,rfl⟩:=rx
   cases y with
   | byt j=>obtain⟨t',rfl⟩:=ry;exact PySem.W.eq_bytes (B3 I q A30)
   | _=>exact absurd (show false=true from hs) Bool.false_ne_true
 | _=>cases y<;>exact absurd (show false=true from hs) Bool.false_ne_true
theorem v7:OpR X (compareOp .NotEq) rNe:=by
 intro Ab s σ H x y v u Q I rx ry h
 obtain⟨hs,q⟩:=h
 cases x with
 | non =>
   cases rx
   cases y with
   | non=>cases ry;exact PySem.EqNone.ne_none_none (B3 I q (by simp))
   | bl j=>cases ry;exact PySem.EqNone.ne_none_bool (B3 I q (by simp))
   | int j=>obtain⟨t',rfl⟩:=ry;exact PySem.EqNone.ne_none_int (B3 I q (by simp))
   | str j=>obtain⟨t',rfl⟩:=ry;exact PySem.EqNone.ne_none_str (B3 I q (by simp))
   | _=>exact absurd (show false=true from hs) Bool.false_ne_true
 | bl i =>
   cases rx
   cases y with
   | non=>cases ry;exact PySem.EqNone.ne_bool_none (B3 I q (by simp))
   | bl j=>cases ry;exact ne_bool (B3 I q (congrArg not Be4))
   | str j=>obtain⟨t',rfl⟩:=ry;exact PySem.EqMixed.ne_bool_str (B3 I q (by simp))
   | _=>exact absurd (show false=true from hs) Bool.false_ne_true
 | int i =>
   obtain⟨t,rfl⟩:=rx
   cases y with
   | non=>cases ry;exact PySem.EqNone.ne_int_none (B3 I q (by simp))
   | int j=>obtain⟨t',rfl⟩:=ry;exact ne_int (B3 I q (congrArg not A29))
   | str j=>obtain⟨t',rfl⟩:=ry;exact PySem.EqMixed.ne_int_str (B3 I q (by simp))
   | _=>exact absurd (show false=true from hs) Bool.false_ne_true
 | str i =>
   obtain⟨t,rfl⟩:=rx
   cases y with
   | non=>cases ry;exact PySem.EqNone.ne_str_none (B3 I q (by simp))
   | bl j=>cases ry;exact PySem.EqMixed.ne_str_bool (B3 I q (by simp))
   | int j=>obtain⟨t',rfl⟩:=ry;exact PySem.EqMixed.ne_str_int (B3 I q (by simp))
   | str j=>obtain⟨t',rfl⟩:=ry;exact ne_str (B3 I q (congrArg not A28))
   | _=>exact absurd (show false=true from hs) Bool.false_ne_true
 | byt i =>
   obtain⟨t,rfl⟩:=rx
   cases y with
   | byt j=>obtain⟨t',rfl⟩:=ry;exact PySem.W.ne_bytes (B3 I q (congrArg not A30))
   | _=>exact absurd (show false=true from hs) Bool.false_ne_true
 | _=>cases y<;>exact absurd (show false=true from hs) Bool.false_ne_true
theorem Nw:OpR X (compareOp .Lt) (rI0 fun i j=>.bl (decide (i<j))):=opB0 fun _ _ _ _ _ _ _ q=>lt_int q
theorem Ba0:OpR X (compareOp .LtE) (rI0 fun i j=>.bl (decide (i<=j))):=opB0 fun _ _ _ _ _ _ _ q=>le_int q
theorem Ba1:OpR X (compareOp .Gt) (rI0 fun i j=>.bl (decide (j<i))):=opB0 fun _ _ _ _ _ _ _ q=>gt_int q
theorem Bi6:OpR X (compareOp .GtE) (rI0 fun i j=>.bl (decide (j<=i))):=opB0 fun _ _ _ _ _ _ _ q=>ge_int q
theorem Rc:OpR X (compareOp .Is) (fun x y H Q=>y=.non/\Q (.bl (decide (x=.non))) H):=by
 intro Ab s σ H x y v u Q I rx ry h
 obtain⟨rfl,q⟩:=h
 cases ry
 refine is_none_gen (B3 I q ?_)
 cases x<;>first
  | (cases rx;rfl)
  | (obtain⟨t,rfl⟩:=rx;rfl)
theorem Bi5:OpR X (compareOp .IsNot) (fun x y H Q=>y=.non/\Q (.bl (!decide (x=.non))) H):=by
 intro Ab s σ H x y v u Q I rx ry h
 obtain⟨rfl,q⟩:=h
 cases ry
 refine isnot_none_gen (B3 I q ?_)
 cases x<;>first
  | (cases rx;rfl)
  | (obtain⟨t,rfl⟩:=rx;rfl)
theorem A9 (b:Expr) {op:CmpOp} (h:op≠.In:=by decide) (h2:op≠.NotIn:=by decide):behindInMarks op b=false:=by
 have e1:(op==CmpOp.In)=false:=by cases op<;>first | rfl | exact absurd rfl h
 have e2:(op==CmpOp.NotIn)=false:=by cases op<;>first | rfl | exact absurd rfl h2
 cases b<;>simp [behindInMarks,e1,e2]
theorem B8 {op:CmpOp}{r:R2} (ho:OpR X (compareOp op) r) (ha:PE X a ta) (hb:PE X b tb) (hm:behindInMarks op b=false):PE X (.Compare a [op] [b] pos) (tOp r ta tb):=by
 intro Ab s σ H Q I h
 exact wpAny_Compare1 (binT ha hb I h fun v u s2 x y H2 I2 rx ry q=>ho Ab s2 σ H2 x y v u Q I2 rx ry q) hm
def Bu8 (t:TE):TT:=fun σ H Q=>t σ H fun x H'=>∃ k,x=.bl k/\Q k H'
theorem A7 {op:CmpOp}{r:R2} (ho:OpR X (compareOp op) r) (ha:PE X a ta) (hb:PE X b tb) (hm:behindInMarks op b=false):PT X (.Compare a [op] [b] pos) (Bu8 (tOp r ta tb)):=by
 intro Ab s σ H Q I h
 refine wpAny_isTrue_Compare1 (thn (ha Ab s σ H _ I h) fun v s1 ⟨x,H1,I1,r1,q1⟩=>thn (hb Ab s1 σ H1 _ I1 q1) fun u s2 ⟨y,H2,I2,r2,q2⟩ =>
  thn (ho Ab s2 σ H2 x y v u _ I2 r1 r2 q2) fun c s3 ⟨z,H3,I3,r3,k,e,q3⟩=>?_) hm
 subst e
 cases r3
 exact wpAny_truthy_bool ⟨H3,I3,q3⟩
def Bo7 (r r':R2) (ta tb tc:TE):TE:=fun σ H Q=>ta σ H fun x H1=>tb σ H1 fun y H2=>r x y H2 fun z H3=>∃ k,z=.bl k ∧
 (if k=true then tc σ H3 fun w' H4=>r' y w' H4 Q else Q (.bl false) H3)
theorem A93 {op op':CmpOp}{r r':R2} (ho:OpR X (compareOp op) r) (ho':OpR X (compareOp op') r') (ha:PE X a ta) (hb:PE X b tb) (hc:PE X c tc)
 (hm:lastMarks [op,op'] [b,c]=false:=by with_unfolding_all rfl):PE X (.Compare a [op,op'] [b,c] pos) (Bo7 r r' ta tb tc):=by
 intro Ab s σ H Q I h
 refine Compare_chain (thn (ha Ab s σ H _ I h) fun v s1 ⟨x,H1,I1,r1,q1⟩=>chain_link (thn (hb Ab s1 σ H1 _ I1 q1) fun u s2 ⟨y,H2,I2,r2,q2⟩ =>
  thn (ho Ab s2 σ H2 x y v u _ I2 r1 r2 q2) fun d s3 ⟨z,H3,I3,r3,k,e,q3⟩=>?_)) hm
 subst e
 cases r3
 refine wpAny_truthy_bool ?_
 cases k with
 | false=>exact ite_ff ⟨.bl false,H3,I3,rfl,q3⟩
 | true=>exact ite_tt (chain_last (thn (hc Ab s3 σ H3 _ I3 q3) fun w' s4 ⟨z',H4,I4,r4,q4⟩=>ho' Ab s4 σ H4 y z' u w' Q I4 r2 r4 q4))
theorem Az2:(sizeLine:Nat)<2 ^ 63:=by rw [sizeLine_eq];decide
theorem Y2 {x:V}{us:List Value} (r:Vals [x] us):∃ u,us=[u]/\RelV x u:=by
 cases r with
 | cons r1 r2=>cases r2;exact ⟨_,rfl,r1⟩
theorem Ah6 {x y:V}{us:List Value} (r:Vals [x,y] us):∃ u w',us=[u,w']/\RelV x u/\RelV y w':=by
 cases r with
 | cons r1 r2 =>
   cases r2 with
   | cons r3 r4=>cases r4;exact ⟨_,_,rfl,r1,r3⟩
theorem i4 (hc:X.calm=true):Hl X (.builtin "max") (fun xs H Q=>∃ i j,xs=[.int i,.int j]/\Q (.int (if j > i then j else i)) H):=by
 intro Ab s σ H xs us Q I r h
 obtain⟨i,j,rfl,q⟩:=h
 obtain⟨u,w',rfl,⟨t,rfl⟩,⟨t',rfl⟩⟩:=Ah6 r
 refine max_two_ints (I.ok.hd hc) fun h' tk k=>⟨_,H,I.kept k,?_,q⟩
 by_cases hj:j > i
 . rw [if_pos hj,if_pos hj];exact ⟨_,rfl⟩
 . rw [if_neg hj,if_neg hj];exact ⟨_,rfl⟩
end
end L2
namespace L2
open PySem PySem.Spec PyProof.Rows
structure ObjM (h:Heap) (x dx C:Addr) (mA:Str->Option Value):Prop where
 obj:h.get? x=some (PySem.W.instObj C dx)
 ns:h.Ns1 dx mA
 ne:dx≠x
theorem Az0 {h:Heap}{dx:Addr}{mA:Str->Option Value} (n:h.Ns1 dx mA):∃ od,h.get? dx=some od/\∀ name,PySem.W.lookIn name od=some (mA name):=by
 obtain⟨o,es,ep,ho,hd,hk,_,hm⟩:=n
 refine⟨o,ho,fun name=>?_⟩
 have e:=hm name
 unfold nsFind findBy at e
 rw [←Array.find?_toList] at e
 unfold PySem.W.lookIn
 rw [hd]
 dsimp only
 split
 . rename_i y q
   rw [q] at e
   exact congrArg some e
 . rename_i q
   rw [q] at e
   have a:es.toList.any (·.refKey)=false:=by
    rw [List.any_eq_false]
    intro y hy
    obtain⟨z,t,hkey⟩:=hk y (Array.mem_toList_iff.mp hy)
    simp [DictEntry.refKey,hkey]
   have a':¬es.toList.any (·.refKey)=true:=by rw [a];exact Bool.false_ne_true
   rw [if_neg a']
   exact congrArg some e
theorem ObjM.look {h:Heap}{x dx C:Addr}{mA:Str->Option Value} (I:ObjM h x dx C mA):∃ od,PySem.W.InstAt h x (PySem.W.instObj C dx) C (some od)/\∀ name,PySem.W.lookIn name od=some (mA name) :=
 let ⟨od,ho,hl⟩:=Az0 I.ns
 ⟨od,⟨I.obj,rfl,rfl,ho⟩,hl⟩
section
variable {prog:Program}{w:World}{A:Around}{E:Value->Shared->Prop}{s:Shared}{K:W.Frag}{x dx C f:Addr}{mA:Str->Option Value}{name:Str}{v:Value}
theorem Bl2 {expr:Bool}{Q:Value->Shared->Prop} (X:K.In s.heap) (I:ObjM s.heap x dx C mA) (hg:PySem.W.plainGet K C name=true) (hh:PySem.W.hasDictIn K C=true)
 (ha:PySem.W.findIn K (.ref C) name=some none) (hv:mA name=some v) (hv':PySem.W.handedIn v=true) (h:Q v { s with toks:=s.toks+1 }) :
 wpAny (model prog w) A (getAttr (.ref x) name expr) Q E s:=by
 obtain⟨od,J,hl⟩:=I.look
 exact PySem.W.get_value X J (PySem.W.plainGet_of hg).1 (PySem.W.findObj_own hh ha rfl (by rw [hl,hv])) hv' h
theorem Bb6 {pl:Sem Bool}{Q:Value × List Value->Shared->Prop} (X:K.In s.heap) (I:ObjM s.heap x dx C mA) (hg:PySem.W.plainGet K C name=true)
 (hf:PySem.W.findIn K (.ref C) name=some (some (.ref f))) (ht:PySem.W.isFn K (.ref f)=true) (hv:mA name=none) (h:Q (.ref f,[.ref x]) s) :
 wpAny (model prog w) A (getMethod (.ref x) name pl) Q E s:=by
 obtain⟨od,J,hl⟩:=I.look
 exact PySem.W.method_fn X J (PySem.W.plainGet_of hg).1 (PySem.W.plainGet_of hg).2 hf (beq_iff_eq.mp ht) (by show (PySem.W.lookIn name od).map (·.isSome)=some false;rw [hl,hv];rfl) h
theorem Bg3 {ns:List Str}{Q:Unit->Shared->Prop} (X:K.In s.heap) (I:ObjM s.heap x dx C mA)
 (hs:PySem.W.findIn K (.ref C) "__setattr__"=some (some (.builtin "object.__setattr__"))) (hp:PySem.W.plainOver K C=true) (ht:PySem.W.takerIn K C name=some none) (hh:PySem.W.hasDictIn K C=true)
 (hw:PySem.Within mA ns) (hsz:ns.length<=sizeLine)
 (h:∀ h',ObjM h' x dx C (fun y=>if y=name then some v else mA y)->Heap.SameBut dx s.heap h'->Q () { s with heap:=h',toks:=s.toks+2 }) :
 wpAny (model prog w) A (setAttr (.ref x) name v) Q E s:=by
 obtain⟨od,J,hl⟩:=I.look
 refine PySem.W.set_plain X J hs (PySem.W.osa_open (s:={ s with toks:=s.toks+1 }) (r:=none) X J hp ht fun b=>?_)
 obtain⟨cd,hc,hd'⟩:=PySem.W.any_some hh
 have hx:s.heap.get? x=some ⟨.ref C,some dx,.plain,#[]⟩:=I.obj
 refine wpAny_bind (wpAny_pure (wpAny_bind (wpAny_bind (wpAny_loadPart hx (wpAny_bind (PySem.W.Looks.here (s:={ s with toks:=s.toks+1 }) (PySem.W.looks_clsIn X hc) ?_))))))
 rw [hd']
 refine wpAny_pure (a:=some dx) (wpAny_bind (wpAny_pure (wpAny_bind ?_)))
 refine wpAny_nsSet1 (s:={ s with toks:=s.toks+1 }) I.ns fun h' hn2 hs2=>?_
 obtain⟨oD,esD,epD,hoD,hdD,hcD⟩:=hn2.count (PySem.Within.cons name v hw)
 refine wpAny_bind (wpAny_lookBehind hoD (by rw [hdD];exact pastItsLine_dict (Nat.le_trans hcD (by rw [List.length_cons];omega))) ?_)
 exact wpAny_pure (h _ ⟨(hs2.2 _ (Ne.symm I.ne)).trans I.obj,hn2,I.ne⟩ hs2)
theorem Af5 {R:Result->Shared->Prop}{vs:List Value}{kw:List (Str × Value)} (X:K.In s.heap) (hm:PySem.W.makesIn K C=true)
 (hi:PySem.W.findIn K (.ref C) "__init__"=some (some (.ref f))) (hf:PySem.W.typeIn K (.ref f)=some (.type "function"))
 (h:codeAny (model prog w) (A.under (.builtin "type.__call__" ⟨.ref C::vs,kw⟩)) (.call (.ref f) ⟨.ref (s.heap.objs.size+1)::vs,kw⟩) (PySem.W.InitBack (s.heap.objs.size+1) R)
   { s with heap:=(s.heap.push PySem.W.emptyDict).push (PySem.W.instObj C s.heap.objs.size) }) :
 codeAny (model prog w) A (.call (.ref C) ⟨vs,kw⟩) R s:=by
 obtain⟨hh,g,d,t,os⟩:=s
 exact PySem.W.make_core (PySem.W.makes_of X hm) (PySem.W.looks_findIn X hi) (fun self=>PySem.W.bind_fn X self hf) (.inl rfl) h
end
def putF (f:Str) (v:V):List (Str × V)->List (Str × V)
 | []=>[(f,v)]
 | (g,x)::r=>if g=f then (g,v)::r else (g,x)::putF f v r
theorem Hy (f g:Str) (v:V):∀ fs:List (Str × V),(putF f v fs).lookup g=if g=f then some v else fs.lookup g
 | []=>by
   show List.lookup g [(f,v)]=_
   by_cases h:g=f
   . have hb:(g==f)=true:=beq_iff_eq.mpr h
     simp only [List.lookup,hb,if_pos h]
   . have hb:(g==f)=false:=beq_eq_false_iff_ne.mpr h
     simp only [List.lookup,hb,if_neg h]
 | (k,x)::r=>by
   have ih:=Hy f g v r
   rw [show putF f v ((k,x)::r)=(if k=f then (k,v)::r else (k,x)::putF f v r) from rfl]
   by_cases hk:k=f
   . rw [if_pos hk]
     by_cases h:g=k
     . have hb:(g==k)=true:=beq_iff_eq.mpr h
       simp only [List.lookup,hb,if_pos (h.trans hk)]
     . have hb:(g==k)=false:=beq_eq_false_iff_ne.mpr h
       simp only [List.lookup,hb,if_neg (fun e:g=f=>h (e.trans hk.symm))]
   . rw [if_neg hk]
     by_cases h:g=k
     . have hb:(g==k)=true:=beq_iff_eq.mpr h
       simp only [List.lookup,hb,if_neg (fun e:g=f=>hk (h.symm.trans e))]
     . have hb:(g==k)=false:=beq_eq_false_iff_ne.mpr h
       simp only [List.lookup,hb]
       exact ih
theorem R7 (f:Str) (v:V):∀ fs:List (Str × V),f∈(putF f v fs).map (·.1)/\∀ g,g∈fs.map (·.1)->g∈(putF f v fs).map (·.1)
 | []=>⟨by simp [putF],fun g h=>by simp at h⟩
 | (k,x)::r=>by
   obtain⟨i1,i2⟩:=R7 f v r
   rw [show putF f v ((k,x)::r)=(if k=f then (k,v)::r else (k,x)::putF f v r) from rfl]
   by_cases hk:k=f
   . rw [if_pos hk]
     subst hk
     exact ⟨by simp,fun g h=>by simpa using h⟩
   . rw [if_neg hk]
     refine⟨?_,fun g h=>?_⟩
     . rw [List.map_cons]
       exact List.mem_cons_of_mem _ i1
     . rw [List.map_cons] at h ⊢
       rcases List.mem_cons.mp h with e | e
       . exact List.mem_cons.mpr (.inl e)
       . exact List.mem_cons_of_mem _ (i2 g e)
theorem L7 (f:Str) (v:V):∀ fs:List (Str × V),(putF f v fs).length<=fs.length+1
 | []=>by simp [putF]
 | (k,x)::r=>by
   have ih:=L7 f v r
   rw [show putF f v ((k,x)::r)=(if k=f then (k,v)::r else (k,x)::putF f v r) from rfl]
   by_cases hk:k=f
   . rw [if_pos hk,List.length_cons,List.length_cons];omega
   . rw [if_neg hk,List.length_cons,List.length_cons];omega
theorem RelO.some_of {v:V}{o:Option Value} (r:RelO (some v) o):∃ u,o=some u/\RelV v u:=by
 cases o with
 | none=>exact (show False from r).elim
 | some u=>exact ⟨u,rfl,r⟩
theorem RelO.none_of {o:Option Value} (r:RelO none o):o=none:=by
 cases o with
 | none=>rfl
 | some u=>exact (show False from r).elim
theorem A10 {v:V}{u:Value} (r:RelV v u):PySem.W.handedIn u=true:=by
 cases v with
 | non=>cases (show u=Value.none from r);rfl
 | bl b=>cases (show u=Value.bool b from r);rfl
 | int i=>obtain⟨t,e⟩:=(show ∃ t,u=Value.int i t from r);cases e;rfl
 | str x=>obtain⟨t,e⟩:=(show ∃ t,u=Value.str x t from r);cases e;rfl
 | byt b=>obtain⟨t,e⟩:=(show ∃ t,u=Value.bytes b t from r);cases e;rfl
 | flt b=>obtain⟨t,e⟩:=(show ∃ t,u=Value.float b t from r);cases e;rfl
 | ref a=>cases (show u=Value.ref a from r);rfl
 | ty n=>cases (show u=Value.type n from r);rfl
section
variable {P:Program}{w:World}{H H':Hp}{h h':Heap}{a C dx:Addr}{fs fs':List (Str × V)}
theorem Ab4 (hok:HOk P w H h) (e:H a=some (.ins C dx fs)):∃ mA,ObjM h a dx C mA/\(∀ f,RelO (fs.lookup f) (mA f))/\PySem.Within mA (fs.map (·.1))/\fs.length<=1000/\H dx=some (.own a):=by
 obtain⟨d,z,ne,ob,mA,n,r,q⟩:=(show ObjOk P w H h a (.ins C dx fs) from hok a _ e)
 exact ⟨mA,⟨ob,n,ne⟩,r,q,z,d⟩
end
structure Cls (K:W.Frag) (C:Addr):Prop where
 pg:PySem.W.plainGet K C Str.empty=true
 hd:PySem.W.hasDictIn K C=true
 po:PySem.W.plainOver K C=true
 sa:PySem.W.findIn K (.ref C) "__setattr__"=some (some (.builtin "object.__setattr__"))
theorem Cls.get {K:W.Frag}{C:Addr} (c:Cls K C) (f:Str):PySem.W.plainGet K C f=true:=c.pg
def NoAttr (K:W.Frag) (C:Addr) (f:Str):Prop:=PySem.W.findIn K (.ref C) f=some none
theorem NoAttr.taker {K:W.Frag}{C:Addr}{f:Str} (n:NoAttr K C f):PySem.W.takerIn K C f=some none:=by
 unfold PySem.W.takerIn
 rw [show PySem.W.findIn K (.ref C) f=some none from n]
 rfl
structure Meth (K:W.Frag) (C:Addr) (m:Str) (f:Addr):Prop where
 at_:PySem.W.findIn K (.ref C) m=some (some (.ref f))
 fn:PySem.W.isFn K (.ref f)=true
 kp:PySem.W.keepIn K (.ref f)=true
section
variable {X:Cx}{Ab:List (Addr × Obj)}{σ:St}{H:Hp}{s:Shared}{a C dx:Addr}{fs:List (Str × V)}{f:Str}{v:V}{A:Around}{E:Value->Shared->Prop}
theorem Ao5 {b:Bool}{Q:Value->Shared->Prop} (I:Inv X Ab σ H s) (e:H a=some (.ins C dx fs)) (c:Cls X.K C) (n:NoAttr X.K C f) (l:fs.lookup f=some v)
 (h:∀ u s',Inv X Ab σ H s'->RelV v u->Q u s'):wpAny (model X.prog X.w) A (getAttr (.ref a) f b) Q E s:=by
 obtain⟨mA,O,r,_,_,_⟩:=Ab4 I.hok e
 obtain⟨u,hu,ru⟩:=RelO.some_of (v:=v) (o:=mA f) (by rw [←l];exact r f)
 exact Bl2 I.kIn O (c.get f) c.hd n hu (A10 ru) (h u _ (I.tok _) ru)
theorem G5 {m:Str}{g:Addr}{pl:Sem Bool}{Q:Value × List Value->Shared->Prop} (I:Inv X Ab σ H s) (e:H a=some (.ins C dx fs)) (c:Cls X.K C) (k:Meth X.K C m g) (l:fs.lookup m=none)
 (h:Q (.ref g,[.ref a]) s):wpAny (model X.prog X.w) A (getMethod (.ref a) m pl) Q E s:=by
 obtain⟨mA,O,r,_,_,_⟩:=Ab4 I.hok e
 have hn:mA m=none:=RelO.none_of (by rw [←l];exact r m)
 exact Bb6 I.kIn O (c.get m) k.at_ k.fn hn h
theorem Aj0 {y:V}{u:Value}{Q:Unit->Shared->Prop} (I:Inv X Ab σ H s) (e:H a=some (.ins C dx fs)) (c:Cls X.K C) (n:NoAttr X.K C f) (hl:fs.length<1000) (ry:RelV y u)
 (h:∀ s',Inv X Ab σ (upd H a (.ins C dx (putF f y fs))) s'->Q () s'):wpAny (model X.prog X.w) A (setAttr (.ref a) f u) Q E s:=by
 obtain⟨mA,O,r,wi,_,ho⟩:=Ab4 I.hok e
 have hz:(fs.map (·.1)).length<=sizeLine:=by rw [List.length_map,sizeLine_eq];omega
 refine Bg3 I.kIn O c.sa c.po n.taker c.hd wi hz fun h' O' sb=>h _ ?_
 have hd:∃ o,h'.get? dx=some o:=let ⟨o,_,_,e',_⟩:=O'.ns;⟨o,e'⟩
 refine I.write (x:=a) (e:=dx) (by rw [e];exact True.intro) (.inr ho) (fun b q hb z=>(sb.2 b hb).trans z) hd ?_
 refine⟨by rw [An O.ne];exact ho,?_,O.ne,O'.obj,_,O'.ns,fun g=>?_,fun g hg=>?_⟩
 . have:=L7 f y fs;omega
 . show RelO ((putF f y fs).lookup g) (if g=f then some u else mA g)
   rw [Hy]
   by_cases q:g=f
   . rw [if_pos q,if_pos q];exact ry
   . rw [if_neg q,if_neg q];exact r g
 . by_cases q:g=f
   . rw [q];exact (R7 f y fs).1
   . refine (R7 f y fs).2 g (wi g fun z=>hg ?_)
     show (if g=f then some u else mA g)=none
     rw [if_neg q];exact z
theorem Inv.made (I:Inv X Ab σ H s):Inv X Ab σ (upd (upd H s.heap.objs.size (.own (s.heap.objs.size+1))) (s.heap.objs.size+1) (.ins C s.heap.objs.size []))
 { s with heap:=(s.heap.push PySem.W.emptyDict).push (PySem.W.instObj C s.heap.objs.size) }:=by
 have e1:(s.heap.push PySem.W.emptyDict).get? s.heap.objs.size=some PySem.W.emptyDict:=Heap.get?_push_size s.heap rfl
 have e2:((s.heap.push PySem.W.emptyDict).push (PySem.W.instObj C s.heap.objs.size)).get? (s.heap.objs.size+1)=some (PySem.W.instObj C s.heap.objs.size):=by
  have:=Heap.get?_push_size (s.heap.push PySem.W.emptyDict) (o:=PySem.W.instObj C s.heap.objs.size) rfl
  rwa [Heap.size_push] at this
 have e3:(s.heap.push PySem.W.emptyDict).Ns s.heap.objs.size (fun _=>none):=⟨PySem.W.emptyDict,#[],_,e1,rfl,(fun e he=>absurd he (by simp)),fun _=>rfl⟩
 have I1:=I.laid (a:=s.heap.objs.size) (o:=.own (s.heap.objs.size+1)) (h':=s.heap.push PySem.W.emptyDict) (t':=s.toks) (fun b u q=>Heap.get?_push_of_some _ q) (Nat.le_refl _) ⟨_,e1⟩
 refine I1.laid (a:=s.heap.objs.size+1) (o:=.ins C s.heap.objs.size []) (t':=s.toks) (fun b u q=>Heap.get?_push_of_some _ q) (Nat.le_of_eq (Heap.size_push _ _)) ?_
 have ne:s.heap.objs.size≠s.heap.objs.size+1:=Nat.ne_of_lt (Nat.lt_succ_self _)
 refine⟨by rw [An ne,Ae],Nat.zero_le _,ne,e2,fun _=>none,(Heap.Ns1.of_empty e3).at fun o q=>Heap.get?_push_of_some _ q,fun _=>True.intro,fun y hy=>absurd rfl hy⟩
theorem Bm9 {prog:Program}{w:World}{env:Env}{e:Expr}{f:Str}{pos:Pos}{s:Shared}{Q:Value->Shared->Prop} (hb:attributeBase e f env (eval e env)=eval e env)
 (h:wpAny (model prog w) A (eval e env) (fun o s₁=>wpAny (model prog w) A (getAttr o f true) Q E s₁) E s):wpAny (model prog w) A (eval (.Attribute e f pos) env) Q E s :=
 Attribute_any_ h (by rw [arm_eval_Attribute,hb])
end
def tFld (K:W.Frag) (ta:TE) (f:Str):TE:=fun σ H Q=>ta σ H fun x H1=>∃ a C dx fs v,x=.ref a/\H1 a=some (.ins C dx fs)/\Cls K C/\NoAttr K C f/\fs.lookup f=some v/\Q v H1
def sFld (K:W.Frag) (ta tv:TE) (f:Str):TS:=fun D σ H=>tv σ H fun y H1=>ta σ H1 fun x H2=>∃ a C dx fs,x=.ref a/\H2 a=some (.ins C dx fs)/\Cls K C/\NoAttr K C f/\fs.length<1000 ∧
 D.nx σ (upd H2 a (.ins C dx (putF f y fs)))
section
variable {X:Cx}{o e value:Expr}{f:Str}{pos pos' tpos:Pos}{ta tv:TE}
theorem Bq3 (he:PE X e ta) (hb:attributeBase e f X.env (eval e X.env)=eval e X.env):PE X (.Attribute e f pos) (tFld X.K ta f):=by
 intro Ab s σ H Q I h
 refine Bm9 hb (thn (he Ab s σ H _ I h) fun u s1 ⟨x,H1,I1,rx,a,C,dx,fs,v,ex,ea,c,n,l,q⟩=>?_)
 subst ex
 obtain rfl:u=Value.ref a:=rx
 exact Ao5 I1 ea c n l fun u' s2 I2 ru=>⟨v,H1,I2,ru,q⟩
theorem Bp7 (ha:PE X o ta) (hv:PE X value tv) (hs:swapsWith value (some (.Attribute o f pos')) pos.line X.env=pure false):PS X (.Assign [.Attribute o f pos'] value pos) (sFld X.K ta tv f):=by
 intro Ab s σ H D I h
 refine plainObj_wpAny_Assign_Attribute (thn (hv Ab s σ H _ I h) fun u s1 ⟨y,H1,I1,ry,q⟩=>thn (ha Ab s1 σ H1 _ I1 q) fun ov s2 ⟨x,H2,I2,rx,a,C,dx,fs,ex,ea,c,n,l,q2⟩=>?_) hs
 subst ex
 obtain rfl:ov=Value.ref a:=rx
 exact Aj0 I2 ea c n l ry fun s3 I3=>⟨σ,_,I3,q2⟩
theorem Bk0 {pl:Sem Bool}{m:Str}{apos:Pos}{args:List Expr}{Ab:List (Addr × Obj)}{s:Shared}{σ:St}{H:Hp}{Q:Value->Shared->Prop}{te:TE} (he:PE X e te) (I:Inv X Ab σ H s)
 (h:te σ H fun x H1=>∃ a C dx fs g,x=.ref a/\H1 a=some (.ins C dx fs)/\Cls X.K C/\Meth X.K C m g/\fs.lookup m=none ∧
   ∀ s1,Inv X Ab σ H1 s1->wpAny (model X.prog X.w) X.A (callWith pos (.ref g) [.ref a] (backTo pos (starEach args X.env)) (backToKw pos (keywordEach [] X.env))) Q X.xe s1)
 (ht:eval (.Call (.Attribute e m apos) args [] pos) X.env=(do
   let ov ←eval e X.env
   standAt apos.atName
   let (f,first) ←holding [ov] (getMethod ov m pl)
   callWith pos f first (backTo pos (starEach args X.env)) (backToKw pos (keywordEach [] X.env)))) :
 wpAny (model X.prog X.w) X.A (eval (.Call (.Attribute e m apos) args [] pos) X.env) Q X.xe s:=by
 refine PySem.W.methodCall_KW (pl:=pl) (thn (he Ab s σ H _ I h) fun u s1 ⟨x,H1,I1,rx,a,C,dx,fs,g,ex,ea,c,k,l,q⟩=>?_) ht
 subst ex
 obtain rfl:u=Value.ref a:=rx
 exact G5 I1 ea c k l (q s1 I1)
end
section
variable {X:Cx}{Ab:List (Addr × Obj)}{σ:St}{H:Hp}{s:Shared}{A:Around}{E:Value->Shared->Prop}{Q:Value->Shared->Prop}{c:Value}{b:Bool}
end
end L2
namespace L2
open PySem PySem.Spec PyProof.Rows
structure Room (k:Nat) (A:Around):Prop where
 hd:A.handled=none
 dp:A.depth+3*k+5<recursionLimit
 un:A.units+16*k+200<cLine
 gd:A.guards=some []
theorem Room.mono {j k:Nat}{A:Around} (r:Room k A) (h:j<=k):Room j A:=⟨r.hd,by have:=r.dp;omega,by have:=r.un;omega,r.gd⟩
theorem Room.deeper {k:Nat}{A:Around} (r:Room (k+1) A) (env:Env):Room k (A.deeper env) :=
 ⟨r.hd,by have:=r.dp;show A.depth+1+3*k+5<_;omega,by have:=r.un;show A.units+3+16*k+200<_;omega,r.gd⟩
theorem An2 {A:Around}{C:Addr}{us:List Value}{kw:List (Str × Value)}:(A.under (.builtin "type.__call__" ⟨.ref C::us,kw⟩)).depth=A.depth+1:=by
 first | rfl | simp [Around.under,Code.weight,Code.isCreation,Code.isGuard,Code.isCaller,Code.frames,Code.isFrame,guardIds]
theorem Aa2 {A:Around}{C:Addr}{us:List Value}{kw:List (Str × Value)}:(A.under (.builtin "type.__call__" ⟨.ref C::us,kw⟩)).guards=A.guards:=by
 first | rfl | simp [Around.under,Code.weight,Code.isCreation,Code.isGuard,Code.isCaller,Code.frames,Code.isFrame,guardIds]
theorem An1 {A:Around}{C:Addr}{us:List Value}{kw:List (Str × Value)}:(A.under (.builtin "type.__call__" ⟨.ref C::us,kw⟩)).units=A.units+1:=by
 first | rfl | simp [Around.under,Code.cUnits,Code.frames,Code.isFrame]
theorem Room.make {k:Nat}{A:Around} (r:Room (k+1) A) (C:Addr) (us:List Value) (kw:List (Str × Value)):Room k (A.under (.builtin "type.__call__" ⟨.ref C::us,kw⟩)) :=
 ⟨r.hd,by have:=r.dp;rw [An2];omega,by have:=r.un;rw [An1];omega,by rw [Aa2];exact r.gd⟩
theorem Room.depth {k:Nat}{A:Around} (r:Room k A):A.depth<recursionLimit:=by have:=r.dp;omega
theorem Room.units {k:Nat}{A:Around} (r:Room k A):A.units+64<cLine:=by have:=r.un;omega
def tNil:TA:=fun _ H Q=>Q [] H
def Bo6 (ta:TE) (tr:TA):TA:=fun σ H Q=>ta σ H fun x H1=>tr σ H1 fun xs H2=>Q (x::xs) H2
section
variable {X:Cx}{e:Expr}{es:List Expr}{te:TE}{t:TA}{pos:Pos}
theorem Ah:PA X [] tNil:=fun _ _ _ _ H Q I h=>Calls.spliced_nil ⟨[],H,I,.nil,h⟩
theorem Aa (ha:PE X e te) (hr:PA X es t) (hs:starEach (e::es) X.env=(false,eval e X.env)::starEach es X.env:=by rfl):PA X (e::es) (Bo6 te t):=by
 intro pos Ab s σ H Q I h
 rw [hs]
 show wpAny _ _ (spliced ((false,eval e X.env)::backTo pos (starEach es X.env))) _ _ s
 refine Calls.spliced_cons (thn (ha Ab s σ H _ I h) fun u s1 ⟨x,H1,I1,r1,q1⟩=>?_)
 exact thn (hr pos Ab s1 σ H1 _ I1 q1) fun us s2 ⟨xs,H2,I2,r2,q2⟩=>⟨x::xs,H2,I2,.cons r1 r2,q2⟩
def tTup (t:TA):TE:=fun σ H Q=>t σ H fun xs H1=>xs.length<=sizeLine/\∀ p,H1 p=none->Q (.ref p) (upd H1 p (.tup xs))
def tLst (t:TA):TE:=fun σ H Q=>t σ H fun xs H1=>xs.length<=sizeLine/\∀ p,H1 p=none->Q (.ref p) (upd H1 p (.lst xs))
theorem Cj {x1} (h:PA X es t):PE X (.Tuple es x1 pos) (tTup t):=by
 intro Ab s σ H Q I hq
 refine wpAny_Tuple_spliced (thn (h pos Ab s σ H _ I hq) fun us s1 ⟨xs,H1,I1,r,z,q⟩=>⟨by rw [←r.length];exact z,?_⟩)
 have hf:H1 s1.heap.objs.size=none:=I1.hok.fresh (Nat.le_refl _)
 refine⟨.ref s1.heap.objs.size,upd H1 s1.heap.objs.size (.tup xs),I1.laid (t':=s1.toks) (fun b u e=>Heap.get?_push_of_some _ e) (Nat.le_refl _) ?_,rfl,q _ hf⟩
 exact ⟨z,us,r,⟨_,Heap.get?_push_size _ rfl,rfl,rfl,_,rfl⟩⟩
theorem Cl (h:PA X es t):PE X (.List es pos) (tLst t):=by
 intro Ab s σ H Q I hq
 refine wpAny_List_spliced (thn (h pos Ab s σ H _ I hq) fun us s1 ⟨xs,H1,I1,r,z,q⟩=>⟨by rw [←r.length];exact z,?_⟩)
 have hf:H1 s1.heap.objs.size=none:=I1.hok.fresh (Nat.le_refl _)
 refine⟨.ref s1.heap.objs.size,upd H1 s1.heap.objs.size (.lst xs),I1.laid (t':=s1.toks) (fun b u e=>Heap.get?_push_of_some _ e) (Nat.le_refl _) ?_,rfl,q _ hf⟩
 exact ⟨z,us,0,r,Heap.get?_push_size _ rfl⟩
end
abbrev Sp:=List V->Hp->VK->XK->Prop
abbrev CXT:=List Env->Hp->Shared->XK->Value->Shared->Prop
structure Env0 (P:Program) (w:World) (K:W.Frag) (mg:Str->Option Value) (base:Heap) (A:Around) (outer:List Env) (s:Shared) (H:Hp):Prop where
 frames:A.frames=some outer
 mod:Mod K mg base
 bs:∀ b o,base.get? b=some o->s.heap.get? b=some o/\H b=none
 bsz:base.objs.size<=s.heap.objs.size
 funs:s.heap.FunFrames base outer
 frf:∀ b∈frs outer,H b=none
 hok:HOk P w H s.heap
 bare:AllBare s.gens
def CE (outer:List Env) (P:Program) (w:World) (H:Hp) (s:Shared) (Q:VK) (u:Value) (s':Shared):Prop :=
 ∃ v H',s'.os=s.os/\AllBare s'.gens/\Un (frs outer) [] H H' s.heap s'.heap/\HOk P w H' s'.heap/\RelV v u/\Q v H'
def CR (CX:CXT) (outer:List Env) (P:Program) (w:World) (H:Hp) (s:Shared) (Q:VK) (E:XK) (r:Result) (s':Shared):Prop :=
 match r with
 | .ok (.ret u)=>CE outer P w H s Q u s'
 | .ok _=>False
 | .error e=>CX outer H s E e s'
structure FnOk (P:Program) (w:World) (K:W.Frag) (mg:Str->Option Value) (base:Heap) (CX:CXT) (k:Nat) (f:Addr) (fd:FuncData) (ps:List Str) (sp:Sp):Prop where
 len:∀ vs H Q E,sp vs H Q E->vs.length=ps.length
 run:∀ (A:Around) (outer:List Env) (s:Shared) (H:Hp) (args:Args) (us:List Value) (vs:List V) (Q:VK) (E:XK),Room k A->Env0 P w K mg base A outer s H->BindsTo s fd args (ps.zip us)->Vals vs us->sp vs H Q E →
  codeAny (model P w) A (.call (.ref f) args) (CR CX outer P w H s Q E) s
theorem Env0.make {P:Program}{w:World}{K:W.Frag}{mg:Str->Option Value}{base:Heap}{A:Around}{outer:List Env}{s:Shared}{H:Hp} (e:Env0 P w K mg base A outer s H) (C:Addr) (us:List Value) (kw:List (Str × Value)) :
 Env0 P w K mg base (A.under (.builtin "type.__call__" ⟨.ref C::us,kw⟩)) outer s H:=⟨by first | exact e.frames | (simpa [Around.under,Code.envs,Code.isFrame,pushEnvs] using e.frames),e.mod,e.bs,e.bsz,e.funs,e.frf,e.hok,e.bare⟩
section
variable {X:Cx}{Ab:List (Addr × Obj)}{σ:St}{H:Hp}{s s':Shared}
theorem Inv.env0 (I:Inv X Ab σ H s):Env0 X.prog X.w X.K X.mg X.base X.A X.stack s H :=
 ⟨I.ok.frames,I.ok.mod,I.bs,Nat.le_trans I.ok.bsz I.sz,I.stack,I.stkFree,I.hok,I.bare⟩
theorem Inv.after {Q:VK}{u:Value} (I:Inv X Ab σ H s) (h:CE X.stack X.prog X.w H s Q u s'):EP X Ab σ Q u s':=by
 obtain⟨v,H',os,bare,un,hok,r,q⟩:=h
 obtain⟨hh,g,d,t,os'⟩:=s'
 obtain rfl:os'=s.os:=os
 exact ⟨v,H',I.call (h':=hh) (g':=g) (d':=d) (t':=t) (ch:=[]) un hok bare (fun b z=>absurd z (by simp)),r,q⟩
end
def tCall (sp:Sp) (dvs:List V) (E:XK) (t:TA):TE:=fun σ H Q=>t σ H fun vs H1=>sp (vs++dvs) H1 Q E
def A73 (C:Addr) (m:Str) (sp:Sp) (dvs:List V) (E:XK) (ta:TE) (t:TA):TE:=fun σ H Q=>ta σ H fun x H1=>∃ a dx fs,x=.ref a/\H1 a=some (.ins C dx fs)/\fs.lookup m=none ∧
 t σ H1 fun vs H2=>sp (x::(vs++dvs)) H2 Q E
def Bo1 (C:Addr) (sp:Sp) (dvs:List V) (E:XK) (t:TA):TE:=fun σ H Q=>t σ H fun vs H1=>∀ x dx,H1 x=none->H1 dx=none->dx≠x →
 sp (.ref x::(vs++dvs)) (upd (upd H1 dx (.own x)) x (.ins C dx [])) (fun v H2=>v=.non/\Q (.ref x) H2) E
def Gi (K:W.Frag) (fd:FuncData) (ps:List Str) (ds:List Value):Prop :=
 ∀ (s:Shared) (us:List Value),K.In s.heap->(us++ds).length=ps.length->BindsTo s fd ⟨us,[]⟩ (ps.zip (us++ds))
theorem Gi.all {K:W.Frag}{fd:FuncData}{ps:List Str} (h:∀ us:List Value,us.length=ps.length->bindArgs fd ⟨us,[]⟩=pure (ps.zip us)):Gi K fd ps []:=fun s us _ hl=>by
 rw [List.append_nil] at hl ⊢
 exact .of_eq (h us hl)
def Tv (CX:CXT) (X:Cx) (E:XK):Prop:=∀ (Ab:List (Addr × Obj)) (σ:St) (H:Hp) (s:Shared) (e:Value) (s':Shared),Inv X Ab σ H s->CX X.stack H s E e s'->X.xe e s'
section
variable {X:Cx}{CX:CXT}{k:Nat}{f C:Addr}{fd:FuncData}{ps:List Str}{sp:Sp}{dvs:List V}{ds:List Value}{E:XK}{x m:Str}{p pos apos:Pos}{e o:Expr}{es:List Expr}{ta:TE}{t:TA}
theorem Au1 {Ab:List (Addr × Obj)}{σ:St}{H:Hp}{s:Shared}{Q:VK}{us:List Value}{vs:List V} (F:FnOk X.prog X.w X.K X.mg X.base CX k f fd ps sp) (hr:Room k X.A) (hb:Gi X.K fd ps ds) (hd:Vals dvs ds) (hx:Tv CX X E)
 (I:Inv X Ab σ H s) (r:Vals vs us) (h:sp (vs++dvs) H Q E):wpAny (model X.prog X.w) X.A (call (.ref f) us) (EP X Ab σ Q) X.xe s:=by
 have r2:Vals (vs++dvs) (us++ds):=r.append hd
 have hl:(us++ds).length=ps.length:=by rw [←r2.length];exact F.len _ _ _ _ h
 refine wpAny_call (codeAny_mono (F.run X.A X.stack s H ⟨us,[]⟩ (us++ds) (vs++dvs) Q E hr I.env0 (hb s us I.kIn hl) r2 h) fun r s' hq=>?_)
 cases r with
 | error e=>exact hx Ab σ H s e s' I hq
 | ok fl =>
   cases fl with
   | ret u=>exact I.after hq
   | next=>exact False.elim hq
   | brk=>exact False.elim hq
   | cont=>exact False.elim hq
theorem Bi2 (F:FnOk X.prog X.w X.K X.mg X.base CX k f fd ps sp) (hr:Room k X.A) (hg:Gl X x) (hm:X.mg x=some (.ref f)) (hk:PySem.W.keepIn X.K (.ref f)=true) (hb:Gi X.K fd ps ds) (hd:Vals dvs ds) (hx:Tv CX X E)
 (ha:PA X (e::es) t) (hdb:(x==("__debug__":Str))=false:=by decide) (he:starEach (e::es) X.env=(false,eval e X.env)::starEach es X.env:=by rfl) (hpl:(backTo pos (starEach es X.env)).any (·.1)=false:=by rfl) :
 PE X (.Call (.Name x p) (e::es) [] pos) (tCall sp dvs E t):=by
 intro Ab s σ H Q I h
 refine wpAny_Call_Name_kw (Jy I hg hm ?_ hdb)
 refine PySem.W.callWith_K (h₀:=X.base) I.ok.mod.kin hk (thn (ha pos Ab s σ H _ I h) fun us s1 ⟨vs,H1,I1,r,q⟩=>⟨I1.kIn,?_⟩) he hpl
 exact Au1 F hr hb hd hx I1 r q
theorem Bh8 {pl:Sem Bool} (he:PE X o ta) (c:Cls X.K C) (hm:Meth X.K C m f) (F:FnOk X.prog X.w X.K X.mg X.base CX k f fd ps sp) (hr:Room k X.A) (hb:Gi X.K fd ps ds) (hd:Vals dvs ds) (hx:Tv CX X E) (ha:PA X (e::es) t)
 (hst:starEach (e::es) X.env=(false,eval e X.env)::starEach es X.env:=by rfl) (hpl:(backTo pos (starEach es X.env)).any (·.1)=false:=by rfl)
 (ht:eval (.Call (.Attribute o m apos) (e::es) [] pos) X.env=(do
   let ov ←eval o X.env
   standAt apos.atName
   let (f,first) ←holding [ov] (getMethod ov m pl)
   callWith pos f first (backTo pos (starEach (e::es) X.env)) (backToKw pos (keywordEach [] X.env))):=by rfl) :
 PE X (.Call (.Attribute o m apos) (e::es) [] pos) (A73 C m sp dvs E ta t):=by
 intro Ab s σ H Q I h
 refine PySem.W.methodCall_KW (pl:=pl) (thn (he Ab s σ H _ I h) fun u s1 ⟨x,H1,I1,rx,a,dx,fs,ex,ea,l,q⟩=>?_) ht
 subst ex
 obtain rfl:u=Value.ref a:=rx
 refine G5 I1 ea c hm l ?_
 refine PySem.W.callWith_K (first:=[.ref a]) (h₀:=X.base) I.ok.mod.kin hm.kp (thn (ha pos Ab s1 σ H1 _ I1 q) fun us s2 ⟨vs,H2,I2,r,q2⟩=>⟨I2.kIn,?_⟩) hst hpl
 exact Au1 (us:=.ref a::us) (vs:=.ref a::vs) F hr hb hd hx I2 (.cons rfl r) q2
theorem A87 {pl:Sem Bool} (he:PE X o ta) (c:Cls X.K C) (hm:Meth X.K C m f) (F:FnOk X.prog X.w X.K X.mg X.base CX k f fd ps sp) (hr:Room k X.A) (hb:Gi X.K fd ps ds) (hd:Vals dvs ds) (hx:Tv CX X E)
 (ht:eval (.Call (.Attribute o m apos) [] [] pos) X.env=(do
   let ov ←eval o X.env
   standAt apos.atName
   let (f,first) ←holding [ov] (getMethod ov m pl)
   callWith pos f first (backTo pos (starEach [] X.env)) (backToKw pos (keywordEach [] X.env))):=by rfl) :
 PE X (.Call (.Attribute o m apos) [] [] pos) (A73 C m sp dvs E ta tNil):=by
 intro Ab s σ H Q I h
 refine PySem.W.methodCall_KW (pl:=pl) (thn (he Ab s σ H _ I h) fun u s1 ⟨x,H1,I1,rx,a,dx,fs,ex,ea,l,q⟩=>?_) ht
 subst ex
 obtain rfl:u=Value.ref a:=rx
 refine G5 I1 ea c hm l ?_
 exact PySem.W.callWith_K0 (first:=[.ref a]) I1.kIn hm.kp (Au1 (us:=[.ref a]) (vs:=[.ref a]) F hr hb hd hx I1 (.cons rfl .nil) q)
structure Mk (K:W.Frag) (C f:Addr):Prop where
 makes:PySem.W.makesIn K C=true
 init:PySem.W.findIn K (.ref C) "__init__"=some (some (.ref f))
 fn:PySem.W.isFn K (.ref f)=true
 kp:PySem.W.keepIn K (.ref C)=true
theorem A78 {Ab:List (Addr × Obj)}{σ:St}{H:Hp}{s:Shared}{Q:VK}{us:List Value}{vs:List V} (M:Mk X.K C f) (F:FnOk X.prog X.w X.K X.mg X.base CX k f fd ps sp) (hr:Room (k+1) X.A) (hb:Gi X.K fd ps ds) (hd:Vals dvs ds)
 (hx:Tv CX X E) (I:Inv X Ab σ H s) (r:Vals vs us)
 (h:∀ x dx,H x=none->H dx=none->dx≠x->sp (.ref x::(vs++dvs)) (upd (upd H dx (.own x)) x (.ins C dx [])) (fun v H2=>v=.non/\Q (.ref x) H2) E) :
 wpAny (model X.prog X.w) X.A (call (.ref C) us) (EP X Ab σ Q) X.xe s:=by
 have hq:=h (s.heap.objs.size+1) s.heap.objs.size (I.hok.fresh (Nat.le_succ _)) (I.hok.fresh (Nat.le_refl _)) (Nat.ne_of_lt (Nat.lt_succ_self _))
 have I2:=Inv.made (C:=C) I
 have r2:Vals (V.ref (s.heap.objs.size+1)::(vs++dvs)) (Value.ref (s.heap.objs.size+1)::(us++ds)):=.cons rfl (r.append hd)
 have hl:(Value.ref (s.heap.objs.size+1)::us++ds).length=ps.length:=by
  have e:=r2.length
  rw [F.len _ _ _ _ hq] at e
  exact e.symm
 refine wpAny_call (Af5 (f:=f) I.kIn M.makes M.init (beq_iff_eq.mp M.fn) (codeAny_mono (F.run _ X.stack _ _ ⟨Value.ref (s.heap.objs.size+1)::us,[]⟩ (Value.ref (s.heap.objs.size+1)::(us++ds)) _ _ E (hr.make C us [])
  (I2.env0.make C us []) (hb _ (Value.ref (s.heap.objs.size+1)::us) I2.kIn hl) r2 hq) fun r s' hq'=>?_))
 cases r with
 | error e=>exact hx Ab σ _ _ e s' I2 hq'
 | ok fl =>
   cases fl with
   | ret u =>
     obtain⟨v,H',I3,rv,ev,q3⟩:=I2.after hq'
     subst ev
     exact ⟨rv,⟨V.ref (s.heap.objs.size+1),H',I3,rfl,q3⟩⟩
   | next=>exact False.elim hq'
   | brk=>exact False.elim hq'
   | cont=>exact False.elim hq'
theorem Bh9 (M:Mk X.K C f) (F:FnOk X.prog X.w X.K X.mg X.base CX k f fd ps sp) (hr:Room (k+1) X.A) (hg:Gl X x) (hm:X.mg x=some (.ref C)) (hb:Gi X.K fd ps ds) (hd:Vals dvs ds) (hx:Tv CX X E)
 (ha:PA X (e::es) t) (hdb:(x==("__debug__":Str))=false:=by decide) (he:starEach (e::es) X.env=(false,eval e X.env)::starEach es X.env:=by rfl) (hpl:(backTo pos (starEach es X.env)).any (·.1)=false:=by rfl) :
 PE X (.Call (.Name x p) (e::es) [] pos) (Bo1 C sp dvs E t):=by
 intro Ab s σ H Q I h
 refine wpAny_Call_Name_kw (Jy I hg hm ?_ hdb)
 refine PySem.W.callWith_K (h₀:=X.base) I.ok.mod.kin M.kp (thn (ha pos Ab s σ H _ I h) fun us s1 ⟨vs,H1,I1,r,q⟩=>⟨I1.kIn,?_⟩) he hpl
 exact A78 M F hr hb hd hx I1 r q
end
section
variable {X:Cx}{CX:CXT}{k:Nat}{f C:Addr}{fd:FuncData}{ps ks:List Str}{sp:Sp}{E:XK}{x m:Str}{p pos apos kpos:Pos}{e o:Expr}{es:List Expr}{kws:List Keyword}{te ta:TE}{t tk:TA}{nm:Option Str}
variable {g:List Value->List Value->List Value}{gV:List V->List V->List V}
end
structure FnScope (N P:List Str) (sc:Scope):Prop where
 kind:sc.kind=.function
 co:sc.isCoroutine=false
 gen:sc.isGenerator=false
 nd:N.Nodup
 pre:N.take P.length=P
 par:∀ x∈P,sc.names.lookup x=some .local\/sc.names.lookup x=some .cell
 nofree:∀ y∈sc.names,y.2≠.free
theorem i9 {kindOf:Str->Option NameKind}{x:Str}:∀{binds:List (Str × Value)}{m:Str->Option Value},(∀ v,(x,v) ∉ binds)->bindL kindOf binds m x=m x
 | [],_,_=>rfl
 | (n,v)::r,m,h=>by
   unfold bindL
   rw [i9 fun w hw=>h w (List.mem_cons_of_mem _ hw)]
   split
   . have:x≠n:=by rintro rfl;exact h v List.mem_cons_self
     simp [this]
   . rfl
theorem j4 {kindOf:Str->Option NameKind}{x:Str}:∀{binds:List (Str × Value)}{m:Str->Option Value},(∀ v,(x,v) ∉ binds)->bindC kindOf binds m x=m x
 | [],_,_=>rfl
 | (n,v)::r,m,h=>by
   unfold bindC
   rw [j4 fun w hw=>h w (List.mem_cons_of_mem _ hw)]
   split
   . rfl
   . have:x≠n:=by rintro rfl;exact h v List.mem_cons_self
     simp [this]
theorem j3 {kindOf:Str->Option NameKind}{x:Str}{v:Value}:∀{P:List Str}{vs:List Value}{i:Nat}{m:Str->Option Value},P.Nodup->P[i]?=some x->vs[i]?=some v->kindOf x=some .local →
 bindL kindOf (P.zip vs) m x=some v
 | [],_,_,_,_,h,_,_=>by simp at h
 | _::_,[],_,_,_,_,h,_=>by simp at h
 | p::P,w::vs,0,m,nd,h1,h2,hk=>by
   simp at h1 h2;subst h1;subst h2
   show bindL kindOf ((p,w)::P.zip vs) m p=_
   unfold bindL
   rw [i9 fun v hv=>(List.nodup_cons.mp nd).1 (List.of_mem_zip hv).1,if_pos hk]
   simp
 | p::P,w::vs,i+1,m,nd,h1,h2,hk=>by
   show bindL kindOf ((p,w)::P.zip vs) m x=_
   unfold bindL
   exact j3 (i:=i) (List.nodup_cons.mp nd).2 (by simpa using h1) (by simpa using h2) hk
theorem j5 {kindOf:Str->Option NameKind}{x:Str}{v:Value}:∀{P:List Str}{vs:List Value}{i:Nat}{m:Str->Option Value},P.Nodup->P[i]?=some x->vs[i]?=some v->kindOf x≠some .local →
 bindC kindOf (P.zip vs) m x=some v
 | [],_,_,_,_,h,_,_=>by simp at h
 | _::_,[],_,_,_,_,h,_=>by simp at h
 | p::P,w::vs,0,m,nd,h1,h2,hk=>by
   simp at h1 h2;subst h1;subst h2
   show bindC kindOf ((p,w)::P.zip vs) m p=_
   unfold bindC
   rw [j4 fun v hv=>(List.nodup_cons.mp nd).1 (List.of_mem_zip hv).1,if_neg hk]
   simp
 | p::P,w::vs,i+1,m,nd,h1,h2,hk=>by
   show bindC kindOf ((p,w)::P.zip vs) m x=_
   unfold bindC
   exact j5 (i:=i) (List.nodup_cons.mp nd).2 (by simpa using h1) (by simpa using h2) hk
def start (N:List Str) (vs:List V):St:=vs.map some++List.replicate (N.length-vs.length) none
def cxOf (CX:CXT) (P:Program) (w:World) (K:W.Frag) (mg:Str->Option Value) (base:Heap) (N:List Str) (qual:Str) (scope:Scope) (f:Addr) (cd:Value) (A:Around) (outer:List Env) (s:Shared) (H:Hp) (E:XK):Cx where
 prog:=P
 w:=w
 K:=K
 mg:=mg
 base:=base
 A:=A.deeper (envOfC qual scope s.heap.objs.size f cd)
 N:=N
 s₀:=s
 H₀:=H
 env:=envOfC qual scope s.heap.objs.size f cd
 outer:=outer
 stack:=envOfC qual scope s.heap.objs.size f cd::outer
 ex:=[]
 calm:=true
 fn:=fun _=>true
 pn:=[]
 xe:=fun e s'=>wpAny (model P w) (A.deeper (envOfC qual scope s.heap.objs.size f cd)) (leaving (envOfC qual scope s.heap.objs.size f cd) e) (fun _ s''=>CX outer H s E e s'') (fun e' s''=>CX outer H s E e' s'') s'
theorem Ag6 {sc:Scope}{n:Nat}{x:Str} (h:sc.names.lookup x=some .cell):∃ c,(cellsFrom n sc.names []).lookup x=some c:=by
 have q:=PySem.W.cellsFrom_some sc.names n [] (.inl h)
 exact Option.isSome_iff_exists.mp q
theorem Z8 {CX:CXT}{P:Program}{w:World}{K:W.Frag}{mg:Str->Option Value}{base:Heap}{N ps:List Str}{qual:Str}{scope:Scope}{f:Addr}{cd:Value}{A:Around}{outer:List Env}{s s1:Shared}{H:Hp}{E:XK}{us:List Value}{vs:List V}
 (S:FnScope N ps scope) (hd:A.handled=none) (e0:Env0 P w K mg base A outer s H) (hl:vs.length=ps.length) (r:Vals vs us)
 (x:InCallC s s.heap.objs.size (bindL (envOfC qual scope s.heap.objs.size f cd).kindOf (ps.zip us) fun _=>none) (cellsFrom (s.heap.objs.size+1) scope.names []) (bindC (envOfC qual scope s.heap.objs.size f cd).kindOf (ps.zip us) fun _=>none) s1) :
 Inv (cxOf CX P w K mg base N qual scope f cd A outer s H E) [] (start N vs) H s1:=by
 have hpl:ps.length<=N.length:=by have:=congrArg List.length S.pre;rw [List.length_take] at this;omega
 obtain⟨h1,tk,rfl,hk⟩:=x.done
 have noA:∀ b:Addr,b ∉ (cxOf CX P w K mg base N qual scope f cd A outer s H E).ex:=fun b z=>absurd (show b∈([]:List Addr) from z) (by simp)
 refine⟨⟨e0.mod,S.kind,rfl,rfl,Nat.le_refl _,fun y z c h1 h2=>?_,fun y hy=>?_,fun y c _ h=>?_,fun _=>hd,Around.frames_deeper e0.frames,.inr ⟨rfl,rfl⟩,fun b z=>absurd z (noA b),e0.bs,e0.bsz,fun b _ _=>noA b,fun b z=>absurd z (noA b),e0.funs,e0.frf⟩,
  rfl,e0.bare,Un.kept hk,⟨_,x.toInCall.ns,fun i y v h1 h2 h3=>?_⟩,fun y c h=>⟨_,x.cell y c h⟩,e0.hok.fresh (Nat.le_refl _),fun y c h=>?_,fun p hp=>absurd (show p∈([]:List (Addr × Obj)) from hp) (by simp),e0.hok.kept hk,?_⟩
 . exact name_of_addr x.apart (PySem.mem_of_lookup h1) (PySem.mem_of_lookup h2)
 . have hy:scope.names.lookup y=some .cell\/scope.names.lookup y=some .free:=hy
   rcases hy with hy | hy
   . exact Ag6 hy
   . exact absurd rfl (S.nofree _ (PySem.mem_of_lookup hy))
 . exact Nat.le_of_lt (x.above y c (PySem.mem_of_lookup h))
 . have hi:i<vs.length:=by
    unfold start at h2
    by_cases hi:i<vs.length
    . exact hi
    . rw [List.getElem?_append_right (by simpa using hi)] at h2
      rw [List.getElem?_replicate] at h2
      split at h2<;>cases h2
   have ha:vs[i]?=some v:=by
    unfold start at h2
    rw [List.getElem?_append_left (by simpa using hi),List.getElem?_map] at h2
    cases e:vs[i]? with
    | none=>rw [e] at h2;cases h2
    | some a=>rw [e] at h2;cases h2;rfl
   obtain⟨u,hu,rv⟩:=r.get ha
   have hp:ps[i]?=some y:=by
    rw [←S.pre,List.getElem?_take_of_lt (by omega)];exact h1
   have ndP:ps.Nodup:=by rw [←S.pre];exact S.nd.sublist (List.take_sublist _ _)
   refine⟨u,rv,?_⟩
   rcases S.par y (List.mem_of_getElem? hp) with k | k
   . exact .inl ⟨k,j3 ndP hp hu k⟩
   . obtain⟨c,e⟩:=Ag6 (n:=s.heap.objs.size+1) k
     refine .inr ⟨.inl k,c,e,?_⟩
     have q:=x.cell y c e
     rw [j5 ndP hp hu (by show scope.names.lookup y≠_;rw [k];decide)] at q
     exact q
 . exact e0.hok.fresh (Nat.le_of_lt (x.above y c (PySem.mem_of_lookup h)))
 . unfold start
   show _=N.length
   rw [List.length_append,List.length_map,List.length_replicate]
   omega
theorem Bl5 {CX:CXT}{P:Program}{w:World}{K:W.Frag}{mg:Str->Option Value}{base:Heap}{k:Nat}{f:Addr}{name qual:Str}{params:Arguments}{body:List Stmt}{scope:Scope}{dV kV doc pm Bw ct oc:Value}{an od:Option Addr}
 {osl:Array (Option Value)}{N ps:List Str}{sp:Sp} (lk:K.lookup f=some ⟨oc,od,.func (PySem.W.fnOf name qual params body scope dV kV doc pm an Bw ct),osl⟩) (hcd:PySem.W.codeIn K Bw qual=true) (S:FnScope N ps scope)
 (len:∀ vs H Q E,sp vs H Q E->vs.length=ps.length)
 (hbody:∀ (A:Around) (outer:List Env) (s:Shared) (H:Hp) (vs:List V) (Q:VK) (E:XK),Room k (A.deeper (envOfC qual scope s.heap.objs.size f Bw))->sp vs H Q E →
   ∃ t,PSs (cxOf CX P w K mg base N qual scope f Bw A outer s H E) body t/\t { nx:=fun _ H'=>Q .non H',rt:=Q } (start N vs) H) :
 FnOk P w K mg base CX (k+1) f (PySem.W.fnOf name qual params body scope dV kV doc pm an Bw ct) ps sp:=by
 refine⟨len,fun A outer s H args us vs Q E hr e0 hb r hsp=>?_⟩
 have hl:=len _ _ _ _ hsp
 have KX:K.In s.heap:=e0.mod.kin.keeps fun b o e=>(e0.bs b o e).1
 have lim:s.heap.NoLimit:=e0.mod.nolimit.keeps fun b o e=>(e0.bs b o e).1
 have hkind:∀ y∈ps.zip us,scope.names.lookup y.1=some .local\/(scope.names.lookup y.1=some .cell/\((cellsFrom (s.heap.objs.size+1) scope.names []).lookup y.1).isSome=true):=fun ⟨n,v⟩ hy=>by
  rcases S.par n (List.of_mem_zip hy).1 with q | q
  . exact .inl q
  . exact .inr ⟨q,PySem.W.cellsFrom_some _ _ _ (.inl q)⟩
 refine codeAny_call_function hr.depth (KX _ _ lk) rfl S.co S.gen rfl (PySem.W.codeRec_of KX hcd) (hb _ _ _ _ ?_)
 refine wpAny_newFunctionEnv_cells S.kind hkind fun env he s1 x=>?_
 subst he
 refine⟨lim.keeps x.toInCall.keep,codeAny_func ?_⟩
 obtain⟨t,ht,hq⟩:=hbody A outer s H vs Q E (hr.deeper _) hsp
 have I:Inv (cxOf CX P w K mg base N qual scope f Bw A outer s H E) [] (start N vs) H s1:=Z8 S hr.hd e0 hl r x
 refine wpAny_mono (ht [] s1 (start N vs) H _ I hq) (fun fl s' hs=>?_) fun e s' hs=>hs
 have fin:∀{σ':St}{H':Hp}{v:V}{u:Value},Inv (cxOf CX P w K mg base N qual scope f Bw A outer s H E) [] σ' H' s'->RelV v u->Q v H'->CE outer P w H s Q u s' :=
  fun {σ' H' v u} J rv q=>⟨v,H',J.os,J.bare,J.base,J.hok,rv,q⟩
 cases fl with
 | ret u =>
   obtain⟨v,σ',H',J,rv,q⟩:=hs
   exact fin J rv q
 | next =>
   obtain⟨σ',H',J,q⟩:=hs
   exact fin (v:=V.non) (u:=Value.none) J rfl q
 | brk =>
   obtain⟨_,_,_,q⟩:=hs
   exact False.elim q
 | cont =>
   obtain⟨_,_,_,q⟩:=hs
   exact False.elim q
end L2
namespace L2
open PySem PySem.Spec PyProof.Rows
section
variable {X:Cx}{x:Str}{p pos:Pos}{e:Expr}{es:List Expr}{t:TA}{id T:String}{r:List V->Hp->VK->Prop}
def tCB (r:List V->Hp->VK->Prop) (t:TA):TE:=fun σ H Q=>t σ H fun vs H1=>r vs H1 Q
theorem A0 (hc:Hl X (.builtin id) r) (hg:Gl X x) (hm:X.mg x=none) (hv:bootBuiltins x=some (.builtin id)) (ha:PA X (e::es) t) (hn:x≠"__name__":=by decide) (hdb:(x==("__debug__":Str))=false:=by decide)
 (he:starEach (e::es) X.env=(false,eval e X.env)::starEach es X.env:=by rfl) (hpl:(backTo pos (starEach es X.env)).any (·.1)=false:=by rfl):PE X (.Call (.Name x p) (e::es) [] pos) (tCB r t):=by
 intro Ab s σ H Q I h
 refine wpAny_Call_Name_kw (O2 I hg hm hv ?_ hn hdb)
 exact PyProof.Rows.callWith_builtin1 (thn (ha pos Ab s σ H _ I h) fun us s1 ⟨vs,H1,I1,r1,q1⟩=>hc Ab s1 σ H1 vs us Q I1 r1 q1) he hpl
theorem Dm (hc:Hl X (.type T) r) (hg:Gl X x) (hm:X.mg x=none) (hv:bootBuiltins x=some (.type T)) (ha:PA X (e::es) t) (hn:x≠"__name__":=by decide) (hdb:(x==("__debug__":Str))=false:=by decide)
 (he:starEach (e::es) X.env=(false,eval e X.env)::starEach es X.env:=by rfl) (hpl:(backTo pos (starEach es X.env)).any (·.1)=false:=by rfl):PE X (.Call (.Name x p) (e::es) [] pos) (tCB r t):=by
 intro Ab s σ H Q I h
 refine wpAny_Call_Name_kw (O2 I hg hm hv ?_ hn hdb)
 exact PyProof.Rows.callWith_type1 (thn (ha pos Ab s σ H _ I h) fun us s1 ⟨vs,H1,I1,r1,q1⟩=>hc Ab s1 σ H1 vs us Q I1 r1 q1) he hpl
end
end L2
namespace HT
open PySem PyProof.Rows
section
open PySem.SeqAt
open PySem.AutoSeq1 (wpAny_loadPart')
open PySem.MeetsSeq PySem.MeetsSeq2 PySem.MeetsSeq3
end
section
variable {prog:Program}{w:World}{A:Around}{E:Value->Shared->Prop}{s:Shared}
theorem cat_tup {t b:Addr}{vs ws:List Value}{Q:Value->Shared->Prop} (ht:IsTup s.heap t vs.toArray) (hb:IsTup s.heap b ws.toArray) (hv:vs≠[])
 (h1:ws=[]->Q (.ref t) s) (h2:ws≠[]->Q (.ref s.heap.objs.size) { s with heap:=s.heap.push { cls:=.type "tuple",data:=.seq (vs++ws).toArray } })
 (hsz:vs.length+ws.length<=sizeLine):wpAny (model prog w) A (binaryOp .Add (.ref t) (.ref b)) Q E s:=by
 obtain⟨⟨cls,dd,data,sl⟩,ho,hc,n,hd⟩:=id ht
 obtain⟨⟨cls2,dd2,data2,sl2⟩,ho2,hc2,n2,hd2⟩:=id hb
 simp only at hc hd hc2 hd2
 subst hc hd hc2 hd2
 have e:vs.toArray++ws.toArray=(vs++ws).toArray:=by simp
 by_cases hw:ws=[]
 . exact concat_meets ⟨_,ho,rfl⟩ ⟨_,ho2,rfl⟩ noFill_tuple_add seq_tuple_add PySem.F.slot_tuple_add PySem.F.entry_tuple_add (PySem.F.args_tuple_add_2 _ _)
    (tuple_addW1 t b vs.toArray ws.toArray n n2 dd dd2 sl sl2 (by simpa using hv) (by simp [hw])) ⟨ho,ho2,h1 hw⟩
 . refine concat_meets ⟨_,ho,rfl⟩ ⟨_,ho2,rfl⟩ noFill_tuple_add seq_tuple_add PySem.F.slot_tuple_add PySem.F.entry_tuple_add (PySem.F.args_tuple_add_2 _ _)
    (tuple_addW2 t b vs.toArray ws.toArray n n2 dd dd2 sl sl2 (by simpa using hv) (by simpa using hw) (by rw [List.size_toArray,List.size_toArray];exact hsz)) ⟨ho,ho2,?_⟩
   rw [e]
   exact h2 hw
def sIx (n d:Nat):Option Int->Nat
 | none=>d
 | some v=>if v<0 then (v+(n:Int)).toNat else min v.toNat n
theorem sIx_none (n d:Nat):sIx n d none=d:=rfl
theorem sIx_nat (n d k:Nat):sIx n d (some (k:Int))=min k n:=by
 show (if (k:Int)<0 then ((k:Int)+(n:Int)).toNat else min (k:Int).toNat n)=min k n
 rw [if_neg (by omega),Int.toNat_natCast]
theorem Bp2 (n d:Nat) (hd:d<=n) (o:Option Int):sIx n d o<=n:=by
 cases o with
 | none=>exact hd
 | some v =>
   show (if v<0 then (v+(n:Int)).toNat else min v.toNat n)<=n
   by_cases hv:v<0
   . rw [if_pos hv];omega
   . rw [if_neg hv];exact Nat.min_le_right _ _
theorem A48 (v:Int) (n d:Nat):(if v<0 then max (v+(n:Int)) 0 else min v (n:Int))=((sIx n d (some v):Nat):Int):=by
 show (if v<0 then max (v+(n:Int)) 0 else min v (n:Int))=(((if v<0 then (v+(n:Int)).toNat else min v.toNat n):Nat):Int)
 by_cases hv:v<0
 . simp only [if_pos hv];omega
 . simp only [if_neg hv];omega
theorem Ar5 (lo hi:Option Int) (n:Nat):Builtin.Slice.sliceAdjust lo hi 1 (n:Int)=(((sIx n 0 lo:Nat):Int),((sIx n n hi:Nat):Int)):=by
 have h1:¬((1:Int)<0):=by omega
 unfold Builtin.Slice.sliceAdjust
 simp only [h1,if_false]
 refine Prod.ext ?_ ?_
 . cases lo with
   | none=>rfl
   | some v=>exact A48 v n 0
 . cases hi with
   | none=>rfl
   | some v=>exact A48 v n n
theorem Ak6 (i j:Nat):Builtin.Slice.slicePlaces (i:Int) (j:Int) 1=j-i:=by
 unfold Builtin.Slice.slicePlaces
 have h1:(1:Int) > 0:=by omega
 simp only [h1,if_true,Int.ediv_one]
 split<;>omega
theorem Vp {v:Value}{o:Option Int}{Q:Option Int->Shared->Prop} (p:IsPart v o) (h:Q o s):wpAny (model prog w) A (Builtin.Slice.slicePartIndex v) Q E s:=by
 cases p with
 | none=>exact slicePart_none h
 | int i t=>exact slicePart_int h
theorem Pf {sl:Addr}{vl vu:Value}{lo hi:Option Int}{n:Nat}{Q:Int × Int × Nat->Shared->Prop} (hs:s.heap.IsSliceOf sl vl vu .none) (pl:IsPart vl lo) (pu:IsPart vu hi)
 (h:Q (((sIx n 0 lo:Nat):Int),1,sIx n n hi-sIx n 0 lo) s):wpAny (model prog w) A (Builtin.Slice.sliceApplied (.ref sl) (pure (n:Int))) Q E s:=by
 obtain⟨os,hos,hcs,hds⟩:=id hs
 unfold Builtin.Slice.sliceApplied Builtin.Slice.sliceFields
 refine wpAny_bind (wpAny_bind (wpAny_field hos hds (x:=vl) rfl (wpAny_bind (wpAny_field hos hds (x:=vu) rfl (wpAny_bind (wpAny_field hos hds (x:=.none) rfl (wpAny_pure ?_)))))))
 refine wpAny_bind (slicePart_none ?_)
 show wpAny _ _ (if ((1:Int)==0)=true then _ else _) _ _ s
 rw [if_neg (by decide)]
 refine wpAny_bind (Vp pl (wpAny_bind (Vp pu (wpAny_bind (wpAny_pure ?_)))))
 show wpAny _ _ (match Builtin.Slice.sliceAdjust lo hi 1 (n:Int) with | (lo,hi)=>pure (lo,(1:Int),Builtin.Slice.slicePlaces lo hi 1)) _ _ s
 rw [Ar5 lo hi n]
 show wpAny _ _ (pure (((sIx n 0 lo:Nat):Int),(1:Int),Builtin.Slice.slicePlaces ((sIx n 0 lo:Nat):Int) ((sIx n n hi:Nat):Int) 1)) _ _ s
 rw [Ak6]
 exact wpAny_pure h
theorem A85 (xs:Array Value) (i k:Nat):((List.range k).filterMap fun (m:Nat)=>xs[((i:Int)+(m:Int)*1).toNat]?).toArray=((xs.toList.drop i).take k).toArray:=by
 have e:(fun (m:Nat)=>xs[((i:Int)+(m:Int)*1).toNat]?)=fun m=>xs[i+m]?:=by
  funext m
  have:((i:Int)+(m:Int)*1).toNat=i+m:=by omega
  rw [this]
 rw [e]
 have:=pick_run xs i k
 rw [List.filterMap_map] at this
 have e2:((fun x=>xs[x]?) ∘ fun x=>i+x)=fun m=>xs[i+m]?:=rfl
 rw [e2] at this
 rw [this]
theorem getItem_tuple_cut {t sl:Addr}{items:Array Value}{vl vu:Value}{lo hi:Option Int}{Q:Value->Shared->Prop} (ht:IsTup s.heap t items) (hs:s.heap.IsSliceOf sl vl vu .none) (pl:IsPart vl lo) (pu:IsPart vu hi)
 (hw:¬(sIx items.size 0 lo=0/\sIx items.size items.size hi=items.size))
 (h:Q (.ref s.heap.objs.size) { s with heap:=s.heap.push { cls:=.type "tuple",data:=.seq ((items.toList.drop (sIx items.size 0 lo)).take (sIx items.size items.size hi-sIx items.size 0 lo)).toArray } })
 (hsz:items.size<=sizeLine):wpAny (model prog w) A (getItem (.ref t) (.ref sl)) Q E s:=by
 have htake:sizeOk (.seq ((items.toList.drop (sIx items.size 0 lo)).take (sIx items.size items.size hi-sIx items.size 0 lo)).toArray):=by
  show ((items.toList.drop (sIx items.size 0 lo)).take (sIx items.size items.size hi-sIx items.size 0 lo)).toArray.size<=sizeLine
  rw [List.size_toArray,List.length_take,List.length_drop,Array.length_toList]
  omega
 have hj:sIx items.size items.size hi<=items.size:=Bp2 _ _ (Nat.le_refl _) hi
 obtain⟨os,hos,hcs,hds⟩:=id hs
 have hTs:s.TypeIs (.ref sl) "slice":=⟨os,hos,hcs⟩
 unfold getItem
 try with_reducible refine wpAny_holding ?_
 first | refine wpAny_bind (wpAny_pure ?_) | skip
 refine wpAny_bind (wpAny_sequenceKey ht.typeIs (by decide) ?_)
 refine wpAny_bind (wpAny_callSpecial?_slot (name:=Str.ofString "__getitem__") ht.typeIs PyProof.Rows.slot_tuple_getitem
  (wpAny_call_entry PyProof.Rows.slot_tuple_getitem ht.typeIs entry_tuple_getitem ?_ (args_tuple_getitem _ _)))
 show wpAny _ _ (Builtin.Tuple.tupleItemsOf (.ref t)>>=_) _ _ s
 refine wpAny_bind (tupleItemsOf_ ht ?_)
 refine wpAny_bind (wpAny_typeOf hTs ?_)
 rw [if_pos (by decide)]
 refine wpAny_bind (Pf hs pl pu ?_)
 have hno:¬((((sIx items.size 0 lo:Nat):Int)==0&&(1:Int)==1&&(sIx items.size items.size hi-sIx items.size 0 lo)==items.size)=true):=by
  intro q
  rw [Bool.and_eq_true,Bool.and_eq_true] at q
  have q1:((sIx items.size 0 lo:Nat):Int)=0:=eq_of_beq q.1.1
  have q2:sIx items.size items.size hi-sIx items.size 0 lo=items.size:=eq_of_beq q.2
  exact hw ⟨by omega,by omega⟩
 show wpAny _ _ (if (((sIx items.size 0 lo:Nat):Int)==0&&(1:Int)==1&&(sIx items.size items.size hi-sIx items.size 0 lo)==items.size)=true then _ else _) _ _ s
 rw [if_neg hno,A85]
 first
  | exact wpAny_bind (m:=Builtin.Tuple.tupleExact _) (wpAny_newObj_type (wpAny_pure ⟨_,rfl,wpAny_pure h⟩) htake)
  | exact wpAny_bind (m:=Builtin.Tuple.tupleExact _) (wpAny_newObj_type (wpAny_bind (wpAny_pure (wpAny_pure ⟨_,rfl,wpAny_pure h⟩))) htake)
  | exact wpAny_bind (wpAny_bind (m:=Builtin.Tuple.tupleExact _) (wpAny_newObj_type (wpAny_pure (wpAny_pure ⟨_,rfl,wpAny_pure h⟩)) htake))
  | exact wpAny_bind (wpAny_bind (m:=Builtin.Tuple.tupleExact _) (wpAny_newObj_type (wpAny_pure ⟨_,rfl,wpAny_pure h⟩) htake))
end
end HT
namespace L2
open PySem PySem.Spec PyProof.Rows
abbrev TO:=St->Hp->(Option Int->Hp->Prop)->Prop
def PO (X:Cx) (e:Option Expr) (t:TO):Prop :=
 ∀ (Ab:List (Addr × Obj)) (s:Shared) (σ:St) (H:Hp) (Q:Option Int->Hp->Prop),Inv X Ab σ H s->t σ H Q →
   wpAny (model X.prog X.w) X.A (evalPart e X.env) (fun u s'=>∃ o H',Inv X Ab σ H' s'/\IsPart u o/\Q o H') X.xe s
def Bf5:TO:=fun _ H Q=>Q none H
def Bu9 (t:TE):TO:=fun σ H Q=>t σ H fun x H1=>∃ i,x=.int i/\Q (some i) H1
section
variable {X:Cx}{e:Expr}{te:TE}{lo hi:Option Expr}{tl th:TO}{pos p2:Pos}
theorem Lz:PO X none Bf5:=by
 intro Ab s σ H Q I h
 rw [evalPart_none]
 exact wpAny_pure ⟨none,H,I,.none,h⟩
theorem Fm (h:PE X e te):PO X (some e) (Bu9 te):=by
 intro Ab s σ H Q I hw
 rw [evalPart_some]
 refine thn (h Ab s σ H _ I hw) fun u s1 ⟨x,H1,I1,r1,q1⟩=>?_
 obtain⟨i,rfl,q⟩:=q1
 obtain⟨t,rfl⟩:=r1
 exact ⟨some i,H1,I1,.int i t,q⟩
def SlR (X:Cx) (r:V->Option Int->Option Int->Hp->VK->Prop):Prop :=
 ∀ (Ab:List (Addr × Obj)) (s:Shared) (σ:St) (H:Hp) (x:V) (v vl vu:Value) (lo hi:Option Int) (sl:Addr) (Q:VK),Inv X Ab σ H s->RelV x v->s.heap.IsSliceOf sl vl vu .none->IsPart vl lo->IsPart vu hi->r x lo hi H Q →
   ∃ T id,typeLookup (.type T) "__getitem__"=pure (some (.builtin id))/\s.TypeIs v T/\wpAny (model X.prog X.w) X.A (getItem v (.ref sl)) (EP X Ab σ Q) X.xe s
def tSl (r:V->Option Int->Option Int->Hp->VK->Prop) (te:TE) (tl th:TO):TE:=fun σ H Q=>te σ H fun x H1=>tl σ H1 fun l H2=>th σ H2 fun u H3=>r x l u H3 Q
theorem E8 {r:V->Option Int->Option Int->Hp->VK->Prop} (hr:SlR X r) (he:PE X e te) (hl:PO X lo tl) (hu:PO X hi th):PE X (.Subscript e (.Slice lo hi none p2) pos) (tSl r te tl th):=by
 intro Ab s σ H Q I h
 refine Subscript_ (thn (he Ab s σ H _ I h) fun v s1 ⟨x,H1,I1,r1,q1⟩=>?_)
 refine wpAny_Slice (thn (hl Ab s1 σ H1 _ I1 q1) fun vl s2 ⟨l,H2,I2,pl,q2⟩=>thn (hu Ab s2 σ H2 _ I2 q2) fun vu s3 ⟨u,H3,I3,pu,q3⟩=>?_)
 rw [evalPart_none]
 refine wpAny_pure ?_
 have I4:Inv X Ab σ H3 { s3 with heap:=s3.heap.push { cls:=.type "slice",data:=.fields #[vl,vu,.none] } }:=I3.kept (t':=s3.toks) fun b ob q=>Heap.get?_push_of_some _ q
 obtain⟨T,id,hT,ht,hg⟩:=hr Ab { s3 with heap:=s3.heap.push { cls:=.type "slice",data:=.fields #[vl,vu,.none] } } σ H3 x v vl vu l u s3.heap.objs.size Q I4 r1 (Heap.IsSliceOf.new ..) pl pu q3
 show wpAny (model X.prog X.w) X.A (subscriptTail e (.Slice lo hi none p2) v (.ref s3.heap.objs.size)) (EP X Ab σ Q) X.xe { s3 with heap:=s3.heap.push { cls:=.type "slice",data:=.fields #[vl,vu,.none] } }
 exact tail_any (ops:=[.ref s3.heap.objs.size,v]) ht hT hg (by with_unfolding_all rfl)
def cutV (xs:List V) (lo hi:Option Int):List V:=(xs.drop (HT.sIx xs.length 0 lo)).take (HT.sIx xs.length xs.length hi-HT.sIx xs.length 0 lo)
theorem S2 (xs:List V) (lo hi:Option Int):(cutV xs lo hi).length<=xs.length:=by
 unfold cutV
 rw [List.length_take,List.length_drop]
 omega
def rSlT (K:W.Frag):V->Option Int->Option Int->Hp->VK->Prop:=fun x lo hi H Q=>∃ a xs,x=.ref a/\SqT K H a xs ∧
 ¬(HT.sIx xs.length 0 lo=0/\HT.sIx xs.length xs.length hi=xs.length)/\∀ p,H p=none->Q (.ref p) (upd H p (.tup (cutV xs lo hi)))
theorem Bo9:SlR X (rSlT X.K):=by
 intro Ab s σ H x v vl vu lo hi sl Q I rx hs pl pu h
 obtain⟨a,xs,rfl,hx,hw,q⟩:=h
 cases rx
 obtain⟨its,r,ht,hz⟩:=I.tuple hx
 have hlen:its.toArray.size=xs.length:=by rw [List.size_toArray];exact r.length.symm
 refine⟨"tuple",_,PyProof.Rows.slot_tuple_getitem.lookup,ht.typeIs,?_⟩
 refine HT.getItem_tuple_cut ht hs pl pu (by rw [hlen];exact hw) ?_ (by rw [hlen];exact hz)
 rw [hlen]
 refine⟨.ref s.heap.objs.size,_,I.laid (t':=s.toks) (o:=.tup (cutV xs lo hi)) (fun b ob q=>Heap.get?_push_of_some _ q) (Nat.le_refl _) ?_,rfl,q _ (I.hok.fresh (Nat.le_refl _))⟩
 exact ⟨Nat.le_trans (S2 xs lo hi) hz,_,(r.drop (HT.sIx xs.length 0 lo)).take (HT.sIx xs.length xs.length hi-HT.sIx xs.length 0 lo),Lm.new _ _⟩
def Bv7 (K:W.Frag):R2:=fun x y H Q=>∃ a b xs ys,x=.ref a/\y=.ref b/\SqT K H a xs/\SqT K H b ys/\xs≠[]/\xs.length+ys.length<=sizeLine ∧
 (ys=[]->Q (.ref a) H)/\(ys≠[]->∀ p,H p=none->Q (.ref p) (upd H p (.tup (xs++ys))))
theorem Vals.nil_iff {xs:List V}{us:List Value} (r:Vals xs us):us=[]↔xs=[]:=by
 cases r with
 | nil=>simp
 | cons _ _=>simp
theorem Bi8:OpR X (binaryOp .Add) (Bv7 X.K):=by
 intro Ab s σ H x y v u Q I rx ry h
 obtain⟨a,b,xs,ys,rfl,rfl,ha,hb,hx,hz,q1,q2⟩:=h
 cases rx
 cases ry
 obtain⟨its,r1,p1,_⟩:=I.tuple ha
 obtain⟨its2,r2,p2,_⟩:=I.tuple hb
 refine HT.cat_tup p1 p2 (fun z=>hx (r1.nil_iff.mp z)) (fun z=>⟨.ref a,H,I,rfl,q1 (r2.nil_iff.mp z)⟩) (fun z=>?_) (by rw [←r1.length,←r2.length];exact hz)
 refine⟨.ref s.heap.objs.size,_,I.laid (t':=s.toks) (o:=.tup (xs++ys)) (fun b ob q=>Heap.get?_push_of_some _ q) (Nat.le_refl _) ?_,rfl,q2 (fun w=>z (r2.nil_iff.mpr w)) _ (I.hok.fresh (Nat.le_refl _))⟩
 exact ⟨by rw [List.length_append];exact hz,_,r1.append r2,Lm.new _ _⟩
end
end L2
namespace L2
open PySem PySem.Spec PyProof.Rows
def ixN (n:Nat) (i:Int):Option Nat:=if 0<=i then (if i<n then some i.toNat else none) else if -(n:Int)<=i then some (i+n).toNat else none
def atI {α:Type} (xs:List α) (i:Int):Option α:=(ixN xs.length i).bind fun j=>xs[j]?
theorem Bk7 {n:Nat}{i:Int}{j:Nat} (h:ixN n i=some j):seqIndex? i n=some j/\j<n/\-(n:Int)<=i/\i<n:=by
 unfold ixN at h
 by_cases h0:0<=i
 . rw [if_pos h0] at h
   by_cases h1:i<n
   . rw [if_pos h1] at h
     have e:i.toNat=j:=Option.some.inj h
     exact ⟨by rw [seqIndex_of h0 h1,e],by omega,by omega,h1⟩
   . rw [if_neg h1] at h;cases h
 . rw [if_neg h0] at h
   by_cases h1:-(n:Int)<=i
   . rw [if_pos h1] at h
     have e:(i+n).toNat=j:=Option.some.inj h
     exact ⟨by rw [seqIndex_neg (by omega) h1,e],by omega,h1,by omega⟩
   . rw [if_neg h1] at h;cases h
theorem A57 {α:Type}{xs:List α}{i:Int}{v:α} (h:atI xs i=some v):∃ j,seqIndex? i xs.length=some j/\xs[j]?=some v/\j<xs.length/\-(xs.length:Int)<=i/\i<xs.length:=by
 unfold atI at h
 cases e:ixN xs.length i with
 | none=>rw [e] at h;cases h
 | some j =>
   rw [e] at h
   obtain⟨h1,h2,h3,h4⟩:=Bk7 e
   exact ⟨j,h1,h,h2,h3,h4⟩
theorem Ei {α:Type}{xs:List α}{j:Nat}{v:α} (h:xs[j]?=some v):atI xs (j:Int)=some v:=by
 have hj:j<xs.length:=(List.getElem?_eq_some_iff.mp h).1
 have e:ixN xs.length (j:Int)=some j:=by
  unfold ixN
  rw [if_pos (by omega),if_pos (by omega)];simp
 unfold atI;rw [e];exact h
def Ae1 (b:Expr):Prop:=∀ o i,subscripted b false o i=operate [o,i] (getItem o i)
def IxR (X:Cx) (r:R2):Prop :=
 ∀ (value slice:Expr) (Ab:List (Addr × Obj)) (s:Shared) (σ:St) (H:Hp) (x y:V) (v u:Value) (Q:VK),Inv X Ab σ H s->RelV x v->RelV y u->r x y H Q →
   subscripted slice false v u=operate [v,u] (getItem v u)->wpAny (model X.prog X.w) X.A (subscriptTail value slice v u) (EP X Ab σ Q) X.xe s
def MtR (X:Cx) (id:String) (r:V->List V->Hp->VK->Prop):Prop :=
 ∀ (Ab:List (Addr × Obj)) (s:Shared) (σ:St) (H:Hp) (x:V) (xs:List V) (v:Value) (us:List Value) (Q:VK),Inv X Ab σ H s->RelV x v->Vals xs us->r x xs H Q →
   wpAny (model X.prog X.w) X.A (call (.builtin id) (v::us)) (EP X Ab σ Q) X.xe s
section
variable {X:Cx}{a b:Expr}{ta tb:TE}{pos:Pos}
theorem Bx {r:R2} (hr:IxR X r) (ha:PE X a ta) (hb:PE X b tb) (hs:Ae1 b):PE X (.Subscript a b pos) (tOp r ta tb):=by
 intro Ab s σ H Q I h
 exact Subscript_ (binT ha hb I h fun v u s2 x y H2 I2 rx ry q=>hr a b Ab s2 σ H2 x y v u Q I2 rx ry q (hs _ _))
def rIxL (K:W.Frag):R2:=fun x y H Q=>∃ p xs i v,x=.ref p/\y=.int i/\SqL K H p xs/\atI xs i=some v/\Q v H
def rIxT (K:W.Frag):R2:=fun x y H Q=>∃ p xs i v,x=.ref p/\y=.int i/\SqT K H p xs/\atI xs i=some v/\Q v H
theorem Bk6:IxR X (rIxL X.K):=by
 intro value slice Ab s σ H x y v u Q I rx ry h hs
 obtain⟨p,xs,i,z,rfl,rfl,hq,he,q⟩:=h
 cases rx
 obtain⟨t,rfl⟩:=ry
 obtain⟨its,r,pl,hz⟩:=I.list hq
 obtain⟨j,h1,h2,h3,h4,h5⟩:=A57 he
 obtain⟨w,ew,rw'⟩:=r.get h2
 have hl:=r.length
 have hn:=Az2
 have fin:EP X Ab σ Q w s:=⟨z,H,I,rw',q⟩
 by_cases h0:0<=i
 . have hj:i.toNat=j:=by
    rw [seqIndex_of h0 h5] at h1
    exact Option.some.inj h1
   exact item_listR pl.isList h0 (by omega) (by rw [hj];simpa using ew) fin hs
 . have hj:(i+(its.toArray.size:Int)).toNat=j:=by
    rw [seqIndex_neg (by omega) h4] at h1
    rw [List.size_toArray,←hl]
    exact Option.some.inj h1
   exact subscriptTail_builtinR (x:=w) pl.isList.typeIs slot_list_getitem.lookup
    (wpAny_getItem_list_neg (Q:=fun r s'=>r=w/\EP X Ab σ Q r s') pl.isList (by omega) (by rw [List.size_toArray]<;>omega) (by omega) (by rw [hj];simpa using ew) ⟨rfl,fin⟩) hs
theorem Bt2:IxR X (rIxT X.K):=by
 intro value slice Ab s σ H x y v u Q I rx ry h hs
 obtain⟨p,xs,i,z,rfl,rfl,hq,he,q⟩:=h
 cases rx
 obtain⟨t,rfl⟩:=ry
 obtain⟨its,r,pl,hz⟩:=I.tuple hq
 obtain⟨j,h1,h2,h3,h4,h5⟩:=A57 he
 obtain⟨w,ew,rw'⟩:=r.get h2
 have hl:=r.length
 have hn:=Az2
 have fin:EP X Ab σ Q w s:=⟨z,H,I,rw',q⟩
 exact subscriptTail_builtinR (x:=w) pl.typeIs slot_tuple_getitem.lookup
  (getItem_tuple (j:=j) (Q:=fun r s'=>r=w/\EP X Ab σ Q r s') pl (by omega) (by omega) (by rw [List.size_toArray,←hl];exact h1) (by simpa using ew) ⟨rfl,fin⟩) hs
theorem Y6 (lo hi:Option Int) (n:Nat):(sliceBounds lo hi none n).1=((HT.sIx n 0 lo:Nat):Int)/\(sliceBounds lo hi none n).2.1=((HT.sIx n n hi:Nat):Int)/\(sliceBounds lo hi none n).2.2=1:=by
 refine⟨?_,?_,rfl⟩
 . cases lo with
   | none=>simp [sliceBounds,HT.sIx]
   | some i =>
     simp only [sliceBounds,HT.sIx,Option.getD_none,show (1:Int) > 0 by decide,if_true]
     by_cases h:i<0
     . simp only [h,if_true]<;>omega
     . simp only [h,if_false]<;>omega
 . cases hi with
   | none=>simp [sliceBounds,HT.sIx]
   | some i =>
     simp only [sliceBounds,HT.sIx,Option.getD_none,show (1:Int) > 0 by decide,if_true]
     by_cases h:i<0
     . simp only [h,if_true]<;>omega
     . simp only [h,if_false]<;>omega
theorem W1 (its:List Value) (lo hi:Option Int):slicePick its.toArray lo hi none=((its.drop (HT.sIx its.length 0 lo)).take (HT.sIx its.length its.length hi-HT.sIx its.length 0 lo)).toArray:=by
 obtain⟨h1,h2,h3⟩:=Y6 lo hi its.toArray.size
 unfold slicePick
 rw [h1,h2,h3]
 simp only [sliceRange_one,pick_run,List.size_toArray]<;>rfl
def rSlL (K:W.Frag):V->Option Int->Option Int->Hp->VK->Prop:=fun x lo hi H Q=>∃ a xs,x=.ref a/\SqL K H a xs/\∀ p,H p=none->Q (.ref p) (upd H p (.lst (cutV xs lo hi)))
theorem Bg1:SlR X (rSlL X.K):=by
 intro Ab s σ H x v vl vu lo hi sl Q I rx hs pl pu h
 obtain⟨a,xs,rfl,hx,q⟩:=h
 cases rx
 obtain⟨its,r,ht,hz⟩:=I.list hx
 have hlen:=r.length
 refine⟨"list",_,slot_list_getitem.lookup,ht.isList.typeIs,?_⟩
 refine wpAny_getItem_list_slice ht.isList hs pl pu .none (by simp) ?_ (by rw [List.size_toArray]<;>omega)
 rw [W1,←hlen]
 refine⟨.ref s.heap.objs.size,_,I.laid (t':=s.toks) (o:=.lst (cutV xs lo hi)) (fun b ob q=>Heap.get?_push_of_some _ q) (Nat.le_refl _) ?_,rfl,q _ (I.hok.fresh (Nat.le_refl _))⟩
 exact ⟨Nat.le_trans (S2 xs lo hi) hz,_,0,(r.drop (HT.sIx xs.length 0 lo)).take (HT.sIx xs.length xs.length hi-HT.sIx xs.length 0 lo),Heap.get?_push_size _ rfl⟩
theorem i6:Hl X (.builtin "len") (fun xs H Q=>∃ p ys,xs=[.ref p]/\(SqL X.K H p ys\/SqT X.K H p ys)/\Q (.int ys.length) H):=by
 intro Ab s σ H xs us Q I r h
 obtain⟨p,ys,rfl,hq,q⟩:=h
 obtain⟨u,rfl,rx⟩:=Y2 r
 cases rx
 have hn:=Az2
 rcases hq with hq | hq
 . obtain⟨its,r',pl,hz⟩:=I.list hq
   have hlen:=r'.length
   exact Calls.call_len_list pl.isList (by simp only [List.size_toArray]<;>omega) ⟨.int ys.length,H,I.tok _,⟨s.toks+1,by rw [List.size_toArray,hlen]⟩,q⟩
 . obtain⟨its,r',pl,hz⟩:=I.tuple hq
   have hlen:=r'.length
   exact len_tuple pl (by simp only [List.size_toArray]<;>omega) ⟨.int ys.length,H,I.tok _,⟨s.toks+1,by rw [List.size_toArray,hlen]⟩,q⟩
theorem i5:Hl X (.type "list") (fun xs H Q=>∃ p ys,xs=[.ref p]/\(SqL X.K H p ys\/SqT X.K H p ys)/\∀ l,H l=none->Q (.ref l) (upd H l (.lst ys))):=by
 intro Ab s σ H xs us Q I r h
 obtain⟨p,ys,rfl,hq,q⟩:=h
 obtain⟨u,rfl,rx⟩:=Y2 r
 cases rx
 have fin:∀ (its:List Value),Vals ys its->ys.length<=sizeLine->∀ (h':Heap) (c':Nat),(∀ b o',s.heap.get? b=some o'->h'.get? b=some o') →
  h'.get? s.heap.objs.size=some { cls:=.type "list",dict:=none,data:=.seq its.toArray c',slots:=#[] }->EP X Ab σ Q (.ref s.heap.objs.size) { s with heap:=h' }:=fun its r' hz h' c' kp e =>
  ⟨.ref s.heap.objs.size,_,I.laid (t':=s.toks) kp (Nat.le_refl _) (show ObjOk X.prog X.w _ h' _ (.lst ys) from ⟨hz,its,c',r',e⟩),rfl,q _ (I.hok.fresh (Nat.le_refl _))⟩
 rcases hq with hq | hq
 . obtain⟨its,r',pl,hz⟩:=I.list hq
   have hlen:=r'.length
   obtain⟨o,ho,hc,n,hd⟩:=pl.isList
   exact call_list_seq p (.inl rfl) ho hc hd (fun h' c' kp e=>fin its r' hz h' c' kp e) (by simp only [List.size_toArray]<;>omega)
 . obtain⟨its,r',pl,hz⟩:=I.tuple hq
   have hlen:=r'.length
   obtain⟨o,ho,hc,n,hd⟩:=pl
   exact call_list_seq p (.inr rfl) ho hc hd (fun h' c' kp e=>fin its r' hz h' c' kp e) (by simp only [List.size_toArray]<;>omega)
theorem Yu:Hl X (.type "tuple") (fun xs H Q=>∃ p ys,xs=[.ref p]/\((SqL X.K H p ys/\∀ l,H l=none->Q (.ref l) (upd H l (.tup ys)))\/(SqT X.K H p ys/\Q (.ref p) H))):=by
 intro Ab s σ H xs us Q I r h
 obtain⟨p,ys,rfl,h⟩:=h
 obtain⟨u,rfl,rx⟩:=Y2 r
 cases rx
 rcases h with ⟨hq,q⟩|⟨hq,q⟩
 . obtain⟨its,r',pl,hz⟩:=I.list hq
   have hlen:=r'.length
   refine call_tuple_list pl.isList (fun h' kp=>?_) (by simp only [List.size_toArray]<;>omega)
   have I1:Inv X Ab σ H { s with heap:=h' }:=I.kept (t':=s.toks) kp
   have I2:Inv X Ab σ (upd H h'.objs.size (.tup ys)) { s with heap:=h'.push { cls:=.type "tuple",data:=.seq its.toArray } } :=
    I1.laid (t':=s.toks) (fun b o e=>Heap.get?_push_of_some _ e) (Nat.le_refl _) (show ObjOk X.prog X.w _ _ _ (.tup ys) from ⟨hz,its,r',Lm.new _ _⟩)
   exact ⟨.ref h'.objs.size,_,I2,rfl,q _ (I1.hok.fresh (Nat.le_refl _))⟩
 . obtain⟨its,r',pl,hz⟩:=I.tuple hq
   exact call_tuple_same pl ⟨.ref p,H,I,rfl,q⟩
def tyV (K:W.Frag) (T:String) (x:V) (H:Hp):Prop:=match x with
 | .str _=>T="str"
 | .int _=>T="int"
 | .ref p=>(T="list"/\∃ xs,SqL K H p xs)\/(T="tuple"/\∃ o,K.lookup p=some o/\o.cls=.type "tuple"/\o.dict=none) ∨
    (T="dict"/\((∃ kvs,H p=some (.dK kvs))\/∃ kvs,H p=some (.dT kvs)))\/(T="set"/\∃ S n,H p=some (.set S n))
 | _=>False
theorem Bn4 {Ab:List (Addr × Obj)}{σ:St}{H:Hp}{s:Shared}{T:String}{x:V}{v:Value} (I:Inv X Ab σ H s) (r:RelV x v) (ty:tyV X.K T x H) :
 s.TypeIs v T/\∀ a,v=.ref a->∃ ob,s.heap.get? a=some ob/\ob.dict=none:=by
 cases x with
 | str z =>
   obtain⟨t,rfl⟩:=r
   cases (show T="str" from ty)
   exact ⟨typeIs_str s z t,fun _ e=>nomatch e⟩
 | int i =>
   obtain⟨t,rfl⟩:=r
   cases (show T="int" from ty)
   exact ⟨typeIs_int s i t,fun _ e=>nomatch e⟩
 | ref p =>
   cases r
   rcases ty with ⟨rfl,xs,hq⟩|⟨rfl,o,hk,hc,hd⟩|⟨rfl,hk⟩|⟨rfl,S,n,hk⟩
   . obtain⟨its,_,pl,_⟩:=I.list hq
     refine⟨pl.isList.typeIs,fun a e=>?_⟩
     cases e
     obtain⟨o,n,e,c,hd,_⟩:=pl
     exact ⟨o,e,hd⟩
   . refine⟨⟨o,I.kIn p o hk,hc⟩,fun a e=>?_⟩
     cases e
     exact ⟨o,I.kIn _ o hk,hd⟩
   . have z:∃ o,s.heap.get? p=some o/\o.ExactDict:=by
      rcases hk with ⟨kvs,hk⟩|⟨kvs,hk⟩
      . obtain⟨_,_,_,_,o,_,_,e,ex,_⟩:=I.hok p _ hk
        exact ⟨o,e,ex⟩
      . obtain⟨_,_,_,_,o,_,_,e,ex,_⟩:=I.hok p _ hk
        exact ⟨o,e,ex⟩
     obtain⟨o,e,ex⟩:=z
     refine⟨⟨o,e,ex.1⟩,fun a e2=>?_⟩
     cases e2
     exact ⟨o,e,ex.2.1⟩
   . obtain⟨o,_,_,_,e,ex,_⟩:=I.hok p _ hk
     refine⟨⟨o,e,ex.1⟩,fun a e2=>?_⟩
     cases e2
     exact ⟨o,e,ex.2.1⟩
 | _=>exact False.elim ty
def tBM (K:W.Frag) (T:String) (r:V->List V->Hp->VK->Prop) (to:TE) (t:TA):TE:=fun σ H Q=>to σ H fun x H1=>tyV K T x H1/\t σ H1 fun xs H2=>r x xs H2 Q
variable {o e:Expr}{es:List Expr}{to:TE}{t:TA}{name:Str}{apos cpos:Pos}{T id:String}{r:V->List V->Hp->VK->Prop}
theorem Bv8 (pa:PlainAttrs T) (slot:Slot T name id) (hty:typeOf (.builtin id)=pure (.type "method_descriptor")) (hm:MtR X id r) (ho:PE X o to) (ha:PA X (e::es) t)
 (hbase:attributeBase o name X.env (eval o X.env)=eval o X.env:=by rfl)
 (hfew:((backTo cpos (starEach (e::es) X.env)).all (fun x=>!x.1)&&(backToKw cpos (keywordEach [] X.env)).all (fun x=>x.1.isSome)
   && decide ((e::es).length+([]:List Keyword).length+(if ([]:List Keyword).isEmpty then 0 else 1)<30))=true:=by rfl)
 (hline:(apos.endLine==cpos.line)=true:=by rfl) (hs:starEach (e::es) X.env=(false,eval e X.env)::starEach es X.env:=by rfl) (hplain:(backTo cpos (starEach es X.env)).any (·.1)=false:=by rfl) :
 PE X (.Call (.Attribute o name apos) (e::es) [] cpos) (tBM X.K T r to t):=by
 intro Ab s σ H Q I h
 refine wpAny_Call_method_late hbase hfew hline rfl (thn (ho Ab s σ H _ I h) fun v s1 ⟨x,H1,I1,r1,ty,q1⟩=>?_)
 obtain⟨h1,h2⟩:=Bn4 I1 r1 ty
 refine⟨T,id,pa,slot,hty,h1,h2,?_⟩
 have hA:=ha cpos Ab s1 σ H1 _ I1 q1
 rw [hs] at hA ⊢
 refine Calls.callWith_builtin (by show (false || (backTo cpos (starEach es X.env)).any (·.1))=false;rw [hplain]<;>rfl) (Calls.evalArgs_plain ?_)
 exact thn hA fun us s2 ⟨vs,H2,I2,r2,q2⟩=>hm Ab s2 σ H2 x vs v us Q I2 r1 r2 q2
end
end L2
namespace L2
open PySem PySem.Spec PyProof.Rows
def MtM (X:Cx) (id:String) (r:V->List V->Hp->VK->Prop):Prop :=
 ∀ (Ab:List (Addr × Obj)) (s:Shared) (σ:St) (H:Hp) (x:V) (xs:List V) (v:Value) (us:List Value) (Q:VK),Inv X Ab σ H s->RelV x v->Vals xs us->r x xs H Q →
   wpAny (model X.prog X.w) X.A (call (.builtin id) (v::us)) (EP X Ab σ Q) X.xe s
theorem Vals.one:∀{x:V}{us:List Value},Vals [x] us->∃ u,us=[u]/\RelV x u
 | _,_,.cons r .nil=>⟨_,rfl,r⟩
section
variable {X:Cx}{Ab:List (Addr × Obj)}{σ:St}{H:Hp}{s:Shared}{l b:Addr}{xs ys zs:List V}
theorem Inv.lset {its its':List Value}{n:Nat}{f:Array Value->Array Value}{t':Nat} (I:Inv X Ab σ H s) (hH:H l=some (.lst xs))
 (e:s.heap.get? l=some { cls:=.type "list",data:=.seq its.toArray n }) (hf:f its.toArray=its'.toArray) (hv:Vals ys its') (hz:ys.length<=sizeLine) :
 Inv X Ab σ (upd H l (.lst ys)) { s with heap:=s.heap.update l (Obj.mapSeq f),toks:=t' }:=by
 have q:=PySem.IsL.update e f
 rw [hf] at q
 refine I.write (x:=l) (e:=l) (by rw [hH];exact trivial) (.inl rfl) (fun b' u hb hu=>(Heap.get?_update_other s.heap (Obj.mapSeq f) (Ne.symm hb)).trans hu) ⟨_,q⟩ ?_
 exact ⟨hz,its',_,hv,q⟩
theorem Inv.lnew {its:List Value}{t':Nat} (I:Inv X Ab σ H s) (hv:Vals ys its) (hz:ys.length<=sizeLine) :
 Inv X Ab σ (upd H s.heap.objs.size (.lst ys)) { s with heap:=s.heap.push { cls:=.type "list",data:=.seq its.toArray },toks:=t' } :=
 I.laid (fun _ _ q=>Heap.get?_push_of_some _ q) (Nat.le_refl _) ⟨hz,its,0,hv,Heap.get?_push_size _ rfl⟩
theorem Inv.fresh (I:Inv X Ab σ H s):H s.heap.objs.size=none:=I.hok.fresh (Nat.le_refl _)
theorem Inv.lstM (I:Inv X Ab σ H s) (hH:H l=some (.lst xs)):xs.length<=sizeLine/\∃ (its:List Value) (n:Nat),Vals xs its/\xs.length=its.length/\s.heap.get? l=some { cls:=.type "list",data:=.seq its.toArray n }:=by
 obtain⟨z,its,n,r,e⟩:=I.hok l _ hH
 exact ⟨z,its,n,r,r.length,e⟩
end
section
variable {X:Cx}
def Bg7:V->List V->Hp->VK->Prop:=fun x vs H Q=>∃ l xs y,x=.ref l/\vs=[y]/\H l=some (.lst xs)/\xs.length<sizeLine/\Q .non (upd H l (.lst (xs++[y])))
theorem Do:MtM X "list.append" Bg7:=by
 intro Ab s σ H x vs v us Q I rx rv h
 obtain⟨l,xs,y,rfl,rfl,hH,hz,q⟩:=h
 cases rx
 obtain⟨u,rfl,ru⟩:=rv.one
 obtain⟨z,its,n,r,hl,e⟩:=I.lstM hH
 refine call_meets F.slot_list_append ⟨_,e,rfl⟩ F.entry_list_append (F.args_list_append_2 _ _) (PySem.list_append l its.toArray n u (by rw [List.size_toArray];omega)) ⟨e,?_⟩
 refine⟨.non,_,I.lset (its':=its++[u]) hH e (by simp) (r.append (.cons ru .nil)) ?_,rfl,q⟩
 rw [List.length_append,List.length_singleton]
 omega
end
section
variable {prog:Program}{w:World}{A:Around}{E:Value->Shared->Prop}{s:Shared}
end
section
variable {X:Cx}
end
end L2
namespace Att
open PySem PySem.W PySem.Calls PyProof.Rows
theorem Sg {P:Params}{h:Heap}:∀ (ns:List Int) (vs:List Value),WellAll P h vs (ns.map WData.int)->IntsAre vs ns:=by
 intro ns
 induction ns with
 | nil =>
   intro vs w
   rw [List.map_nil] at w
   cases w
   exact .nil
 | cons n ns ih =>
   intro vs w
   rw [List.map_cons] at w
   cases w with
   | cons a b =>
     cases a
     exact .cons _ _ (ih _ b)
theorem At2 {l:OpenLaw}{n:Nat} (hn:l.most=some n) {P:Params}{h:Heap}{args:List WData}{vals:List Value}
 (hpre:l.row.toRowW.claim.pre args=true) (hwl:WellAll P h vals args) :
 ∃ a vs ns,vals=[Value.ref a]/\args=[WData.list (ns.map WData.int)]/\h.get? a=some { cls:=.type "list",data:=.seq vs.toArray }/\IntsAre vs ns/\ns.length<=n:=by
 have hsh:WShape.hasAll [] args [.list .int]=true:=(pre_splitW hpre).1
 have hc:l.pre.holds [] { args:=args }=true:=(pre_splitW hpre).2
 obtain⟨d,r,rfl,h1,h2⟩:=hasAllW_cons hsh
 obtain rfl:=hasAllW_nil h2
 obtain⟨xs,rfl,h3⟩:=hasW_list h1
 obtain⟨ns,rfl⟩:=items_int h3
 have hlen:ns.length<=n:=by
  unfold OpenLaw.pre at hc
  have h4:(WTm.not (.lt (.lit (.int (n:Int))) (.len (.arg 0)))).holds [] { args:=[.list (ns.map .int)] }=true:=by
   have h4:=(holds_andW hc).1
   rw [hn] at h4
   exact h4
  have h5:=condW_of h4 (w_not (w_lt w_lit (w_len_list (w_arg rfl))))
  rw [List.length_map] at h5
  refine Nat.le_of_not_lt fun q=>?_
  have q':(n:Int)<((ns.length:Nat):Int):=by omega
  first
   | (rw [decide_eq_true q'] at h5;exact absurd h5 (by decide))
   | (simp at h5;omega)
 cases hwl with
 | cons w1 w2 =>
   cases w2
   cases w1 with
   | list ho hall=>exact ⟨_,_,ns,rfl,rfl,ho,Sg ns _ hall,hlen⟩
theorem Au8 (l:OpenLaw) (args:List WData):l.row.toRowW.claim.post args (.bool true) args=true :=
 postW_of (r:=l.row.toRowW) (X:=(true==true))
  (show WShape.has [] (.bool true) .bool=true by first | rfl | decide | simp [WShape.has,WShape.arms,WShape.armsAll])
  (show (WTm.eq .res (.lit (.bool true))).value [] { args:=args,res:=some (.bool true),after:=args }=some (.bool (true==true)) from w_eq_bool (w_res rfl) w_lit) rfl
theorem attach_call {l:OpenLaw}{n:Nat}{q:Program}{loose:List Str}{XP:(Str->Option Value)->Heap->Prop}{YP:World->Heap->Prop}{d:DefRec}
 (hn:l.most=some n) (hdf:d.params.defaults=[])
 (call:∀ (w:World) (s₀ s₁:Shared) (mg mb:Str->Option Value) (fa:Addr) (o:Obj) (pm cd doc:Value) (a:Addr) (vs:List Value) (ns:List Int),
   Ground q loose [] XP w s₀ mg mb s₁.heap->YP w s₁.heap →
   s₁.heap.get? fa=some o->o.data=.func (docDef d.name d.params d.body d.scope pm cd doc)->s₁.heap.CodeRec cd d.name->mg d.name=some (.ref fa) →
   s₁.heap.get? a=some { cls:=.type "list",data:=.seq vs.toArray }->IntsAre vs ns->ns.length<=n->s₁.gens=#[] →
   codeAny (model l.prog w) callerA (.call (.ref fa) ⟨[.ref a],[]⟩) (fun r s'=>r=.ok (.ret (.bool true))/\OldK s₁.heap s'.heap/\s'.os=s₁.os/\AllBare s'.gens) s₁) :
 WalkO q loose XP YP l.row.toRowW d [] (fun f vs=>PySem.call f vs):=by
 intro w s₀ s₁ mg mb G Y fa o pm cd doc dV kV ho hd hcd hD hmg hg args vals as hpre hlay hrd hwl hlo
 obtain rfl:dV=.none:=Dflts.none hD hdf
 obtain rfl:kV=.none:=Dflts.noKw hD
 obtain⟨a,vs,ns,rfl,rfl,hobj,hints,hlen⟩:=At2 hn hpre hwl
 refine enter_call (codeAny_mono (call w s₀ s₁ mg mb fa o pm cd doc a vs ns G Y ho (fd_plain hd) hcd hmg hobj hints hlen hg) fun r s' hq=>?_)
 obtain⟨rfl,h2,h3,h4⟩:=hq
 exact ⟨.inl ⟨.bool true,.bool true,[],rfl,fun _=>rfl,.bool true,Au8 l _,fun _=>⟨List.Pairwise.nil,fun _ hm=>(nomatch hm)⟩⟩,h2,h3,h4⟩
section
variable {prog:Program}{w:World}{A:Around}{E:Value->Shared->Prop}{s:Shared}{K:Frag}
end
end Att
namespace L2
open PySem PySem.Spec PyProof.Rows
theorem Y1:∀{vs:List Value}{ns:List Int},IntsAre vs ns->Vals (ns.map V.int) vs
 | _,_,.nil=>.nil
 | _,_,.cons n t h=>.cons ⟨t,rfl⟩ (Y1 h)
def Only (H:Hp):Prop:=∀ b,H b=none\/∃ o xs,H b=some (.frz o (.lst xs))
theorem Bb2 {P:Program}{w:World}{K:W.Frag}{mg mb:Str->Option Value}{CX:CXT}{k:Nat}{fa a:Addr}{fd:FuncData}{x:Str}{sp:Sp}{s₁:Shared}{vs:List Value}{ns:List Int}
 (KX:K.In s₁.heap) (hns:s₁.heap.Ns mainGlobals mg) (hb:s₁.heap.Ns builtinsNs mb) (hbb:∀ x:Str,x≠"__name__"->mb x=bootBuiltins x) (hlim:s₁.heap.NoLimit) (hg:s₁.gens=#[])
 (ha:s₁.heap.get? a=some { cls:=.type "list",data:=.seq vs.toArray }) (hi:IntsAre vs ns) (hl:ns.length<=sizeLine) (hr:Room k callerA)
 (F:∀ base:Heap,K.In base->base.Ns mainGlobals mg->FnOk P w K mg base CX k fa fd [x] sp) (hbind:∀ (s:Shared) (u:Value),BindsTo s fd ⟨[u],[]⟩ [(x,u)])
 (hsp:∀ H:Hp,Only H->SqL K H a (ns.map V.int)->sp [.ref a] H (fun v _=>v=.bl true) fun _ _ _=>False)
 (hCX:∀ H e s',CX [] H s₁ (fun _ _ _=>False) e s'->False) :
 codeAny (model P w) callerA (.call (.ref fa) ⟨[.ref a],[]⟩) (fun r s'=>r=.ok (.ret (.bool true))/\OldK s₁.heap s'.heap/\s'.os=s₁.os/\AllBare s'.gens) s₁:=by
 have rv:=Y1 hi
 have lenV:=hi.length
 have core:∀ H:Hp,Only H->SqL K H a (ns.map V.int)->HOk P w H s₁.heap->(∀ b,H b≠none->b=a)->(H a≠none->K.lookup a=none) →
  codeAny (model P w) callerA (.call (.ref fa) ⟨[.ref a],[]⟩) (fun r s'=>r=.ok (.ret (.bool true))/\OldK s₁.heap s'.heap/\s'.os=s₁.os/\AllBare s'.gens) s₁:=by
  intro H hO hS hok hA hK
  have base_of:∀{b:Addr}{o:Obj},s₁.heap.get? b=some o->H b=none->(hidT s₁.heap H).get? b=some o:=fun e n=>Bb5 e n
  have noA:∀{b:Addr}{o:Obj}{es:Array DictEntry}{ep:Nat},s₁.heap.get? b=some o->o.data=.dict es ep->H b=none:=fun {b o es ep} e d=>by
   cases q:H b with
   | none=>rfl
   | some u =>
     have e':b=a:=hA b (by rw [q];simp)
     subst e'
     rw [ha] at e;cases e
     have d':Data.seq vs.toArray _=Data.dict es ep:=d
     cases d'
  have nsK:∀{b:Addr}{m:Str->Option Value},s₁.heap.Ns b m->(hidT s₁.heap H).Ns b m:=fun {b m} ⟨o,es,ep,e,d,r⟩=>⟨o,es,ep,base_of e (noA e d),d,r⟩
  have hKb:K.In (hidT s₁.heap H):=fun b o e=>base_of (KX b o e) (by
   cases q:H b with
   | none=>rfl
   | some u =>
     have e':b=a:=hA b (by rw [q];simp)
     subst e'
     rw [hK (by rw [q];simp)] at e;cases e)
  have hM:Mod K mg (hidT s₁.heap H):=⟨hKb,nsK hns,⟨mb,nsK hb,hbb⟩,let ⟨mc,h1,h2⟩:=hlim;⟨mc,nsK h1,h2⟩⟩
  have e0:Env0 P w K mg (hidT s₁.heap H) callerA [] s₁ H:=⟨rfl,hM,fun b o e=>Bj1 e,Nat.le_of_eq (A07 _ _),trivial,fun b hb=>absurd (show b∈([]:List Addr) from hb) (by simp),hok,.of_eq hg⟩
  refine codeAny_mono ((F _ hKb (nsK hns)).run callerA [] s₁ H ⟨[.ref a],[]⟩ [.ref a] [.ref a] _ _ hr e0 (hbind s₁ (.ref a)) (.cons rfl .nil) (hsp H hO hS)) fun r s' h=>?_
  cases r with
  | error e=>exact (hCX H e s' h).elim
  | ok fl =>
    cases fl with
    | next=>exact False.elim h
    | brk=>exact False.elim h
    | cont=>exact False.elim h
    | ret u =>
      obtain⟨v,H',os,bare,un,hok',r',q⟩:=h
      have q':v=.bl true:=q
      subst q'
      obtain rfl:u=Value.bool true:=r'
      refine⟨rfl,OldK.of_keep fun b o e=>?_,os,bare⟩
      cases q:H b with
      | none=>exact un.keep b o e q (by intro z;exact absurd (show b∈([]:List Addr) from z) (by simp)) (by simp)
      | some u =>
        rcases hO b with z|⟨ob,xs,z⟩
        . rw [q] at z;cases z
        . have z2:=un.frzs b ob _ z
          obtain⟨e1,_⟩:=hok b _ z
          obtain⟨e2,_⟩:=hok' b _ z2
          rw [e] at e1;cases e1
          exact e2
 cases hk:K.lookup a with
 | some o =>
   have e:=KX a o hk
   rw [ha] at e
   cases e
   refine core (fun _=>none) (fun _=>.inl rfl) (.inr ⟨_,vs.toArray,_,hk,rfl,rfl,rfl,by rw [List.size_toArray,lenV];exact hl,by simpa using rv⟩) (fun b u z=>by have z':(none:Option HO)=some u:=z;cases z') (fun b z=>absurd rfl z) fun z=>absurd rfl z
 | none =>
   refine core (fun b=>if b=a then some (.frz { cls:=.type "list",data:=.seq vs.toArray } (.lst (ns.map V.int))) else none) (fun b=>?_) (.inl (.inr ⟨{ cls:=.type "list",data:=.seq vs.toArray },if_pos rfl⟩)) (fun b u z=>?_) (fun b z=>?_) fun _=>hk
   . by_cases hb:b=a
     . exact .inr ⟨_,_,if_pos hb⟩
     . exact .inl (if_neg hb)
   . by_cases hb:b=a
     . have z':=(if_pos hb).symm.trans z
       cases z'
       subst hb
       exact ⟨ha,by rw [List.length_map];exact hl,vs,_,rv,ha⟩
     . have z':=(if_neg hb).symm.trans z
       cases z'
   . by_cases hb:b=a
     . exact hb
     . exact absurd (if_neg hb) z
end L2
namespace L2
open PySem PySem.Spec PyProof.Rows
theorem walk_of {l:PySem.W.OpenLaw}{n k:Nat}{q:Program}{loose:List Str}{XP:(Str->Option Value)->Heap->Prop}{YP:World->Heap->Prop}{d:DefRec}{K:Params->PySem.W.Frag}{CX:World->CXT}{sp:World->Sp}{x:Str}
 (hn:l.most=some n) (hn2:n<=sizeLine) (hdf:d.params.defaults=[]) (hr:Room k callerA)
 (hY:∀ (w:World) (h:Heap),YP w h->(K w.params).In h)
 (F:∀ (w:World) (mg:Str->Option Value) (fa:Addr) (h:Heap),(K w.params).In h->h.Ns mainGlobals mg->mg d.name=some (.ref fa) →
   ∃ fd:FuncData,(∀ (s:Shared) (u:Value),BindsTo s fd ⟨[u],[]⟩ [(x,u)]) ∧
     ∀ base:Heap,(K w.params).In base->base.Ns mainGlobals mg->FnOk l.prog w (K w.params) mg base (CX w) k fa fd [x] (sp w))
 (hsp:∀ (w:World) (H:Hp) (a:Addr) (ns:List Int),ns.length<=n->Only H->SqL (K w.params) H a (ns.map V.int)->sp w [.ref a] H (fun v _=>v=.bl true) fun _ _ _=>False)
 (hCX:∀ (w:World) (H:Hp) (s:Shared) (e:Value) (s':Shared),CX w [] H s (fun _ _ _=>False) e s'->False) :
 PySem.W.WalkO q loose XP YP l.row.toRowW d [] (fun f vs=>PySem.call f vs):=by
 refine Att.attach_call hn hdf fun w s₀ s₁ mg mb fa o pm cd doc a vs ns G Y ho hd hcd hmg hobj hints hlen hg=>?_
 have KX:=hY w _ Y
 obtain⟨fd,hb,hF⟩:=F w mg fa _ KX G.T.g hmg
 exact Bb2 KX G.T.g G.T.b G.T.builtins G.T.nolimit hg hobj hints (Nat.le_trans hlen hn2) hr hF hb (fun H hO hS=>hsp w H a ns hlen hO hS) fun H e s'=>hCX w H s₁ e s'
end L2
namespace L2
open PySem PySem.Spec PyProof.Rows
def Ma (s:Stmt) (j:Nat):Stmt:=match s with
 | .ClassDef _ _ _ body _ _ _ _ _ _ _=>body.getD j (.Pass ⟨0,0,0,0⟩)
 | _=>.Pass ⟨0,0,0,0⟩
def Bd (s:Stmt):Arguments:=match s with
 | .FunctionDef _ a _ _ _ _ _ _ _ _=>a
 | _=>{ posonlyargs:=[],args:=[],vararg:=none,kwonlyargs:=[],kw_defaults:=[],kwarg:=none,defaults:=[] }
def Ba (s:Stmt):List Stmt:=match s with
 | .FunctionDef _ _ b _ _ _ _ _ _ _=>b
 | _=>[]
def Aj (s:Stmt):Scope:=match s with
 | .FunctionDef _ _ _ _ _ _ sc _ _ _=>sc
 | _=>{ kind:=.function,names:=[],isGenerator:=false,isCoroutine:=false }
abbrev CX0:CXT:=fun _ _ _ _ _ _=>False
abbrev E0:XK:=fun _ _ _=>False
theorem A96 {X:Cx}:Tv CX0 X E0:=fun _ _ _ _ _ _ _ h=>h.elim
structure Fun (K:W.Frag) (x qual:Str) (st:Stmt) (f:Addr) (fd:FuncData):Prop where
 ex:∃ (oc:Value) (od:Option Addr) (kV doc pm:Value) (an:Option Addr) (Bw ct:Value) (osl:Array (Option Value)),
  fd=PySem.W.fnOf x qual (Bd st) (Ba st) (Aj st) .none kV doc pm an Bw ct/\K.lookup f=some ⟨oc,od,.func fd,osl⟩/\PySem.W.codeIn K Bw qual=true
 kp:PySem.W.keepIn K (.ref f)=true
section
variable {P:Program}{w:World}{K:W.Frag}{mg:Str->Option Value}{base:Heap}
theorem Fun.ok {x qual:Str}{st:Stmt}{f:Addr}{fd:FuncData}{N ps:List Str}{k:Nat}{sp:Sp} (F:Fun K x qual st f fd) (S:FnScope N ps (Aj st)) (len:∀ vs H Q E,sp vs H Q E->vs.length=ps.length)
 (hbody:∀ (Bw:Value) (A:Around) (outer:List Env) (s:Shared) (H:Hp) (vs:List V) (Q:VK) (E:XK),Room k (A.deeper (envOfC qual (Aj st) s.heap.objs.size f Bw))->sp vs H Q E →
   ∃ t,PSs (cxOf CX0 P w K mg base N qual (Aj st) f Bw A outer s H E).nox (Ba st) t/\t { nx:=fun _ H'=>Q .non H',rt:=Q } (start N vs) H):FnOk P w K mg base CX0 (k+1) f fd ps sp:=by
 obtain⟨oc,od,kV,doc,pm,an,Bw,ct,osl,rfl,lk,hcd⟩:=F.ex
 refine Bl5 lk hcd S len fun A outer s H vs Q E hr hsp=>?_
 obtain⟨t,h,q⟩:=hbody Bw A outer s H vs Q E hr hsp
 exact ⟨t,h.nox,q⟩
theorem Fun.binds {x qual:Str}{st:Stmt}{f:Addr}{fd:FuncData}{ps:List Str} (F:Fun K x qual st f fd)
 (h:∀ (kV doc pm:Value) (an:Option Addr) (Bw ct:Value) (us:List Value),us.length=ps.length->bindArgs (PySem.W.fnOf x qual (Bd st) (Ba st) (Aj st) .none kV doc pm an Bw ct) ⟨us,[]⟩=pure (ps.zip us)):Gi K fd ps []:=by
 obtain⟨oc,od,kV,doc,pm,an,Bw,ct,osl,rfl,lk,hcd⟩:=F.ex
 exact .all (h kV doc pm an Bw ct)
theorem Bj {x qual:Str}{st:Stmt}{f:Addr}{oc:Value}{od an:Option Addr}{osl:Array (Option Value)}{kV doc pm Bw ct:Value} (l:K.lookup f=some ⟨oc,od,.func (PySem.W.fnOf x qual (Bd st) (Ba st) (Aj st) .none kV doc pm an Bw ct),osl⟩)
 (c:PySem.W.codeIn K Bw qual=true) (k:PySem.W.keepIn K (.ref f)=true):Fun K x qual st f (PySem.W.fnOf x qual (Bd st) (Ba st) (Aj st) .none kV doc pm an Bw ct):=⟨⟨oc,od,kV,doc,pm,an,Bw,ct,osl,rfl,l,c⟩,k⟩
end
section
variable {X:Cx}
theorem pv (i:Nat) {x:Str}{pos:Pos} (hN:X.N[i]?=some x:=by rfl) (hv:Vis X.env.scope x:=by first | exact Or.inl rfl | exact Or.inr (Or.inl rfl) | exact Or.inr (Or.inr rfl)) (hd:(x==("__debug__":Str))=false:=by decide)
 (hcd:(x==("__classdict__":Str))=false:=by decide):PE X (.Name x pos) (tVar i):=Bq2 hN hv hd hcd
end
theorem ite2 {c A B:Prop} [Decidable c] (h1:c->A) (h2:¬c->B):if c then A else B:=by
 by_cases h:c
 . rw [if_pos h]
   exact h1 h
 . rw [if_neg h]
   exact h2 h
def Same (H H':Hp):Prop:=∀ b o,H b=some o->H' b=some o
theorem Same.refl (H:Hp):Same H H:=fun _ _ h=>h
theorem Same.trans {H H1 H2:Hp} (a:Same H H1) (b:Same H1 H2):Same H H2:=fun c o h=>b c o (a c o h)
theorem Same.free {H H':Hp} (e:Same H H') {l:Addr} (h:H' l=Option.none):H l=Option.none:=by
 cases q:H l with
 | none=>rfl
 | some o =>
   rw [e l o q] at h
   cases h
theorem Same.seq {K:W.Frag}{H H':Hp}{a:Addr}{xs:List V} (e:Same H H') (h:SqL K H a xs):SqL K H' a xs:=by
 rcases h with (h|⟨o,h⟩) | h
 . exact .inl (.inl (e _ _ h))
 . exact .inl (.inr ⟨o,e _ _ h⟩)
 . exact .inr h
end L2
namespace L2
open PySem PySem.Spec PyProof.Rows
section
variable {κ:Type} [DecidableEq κ]
def valV (kvs:List (κ × V)) (k:κ):Option V:=(kvs.find? fun kv=>decide (kv.1=k)).map (·.2)
def putK (kvs:List (κ × V)) (k:κ) (v:V):List (κ × V) :=
 if (kvs.any fun kv=>decide (kv.1=k))=true then kvs.map (fun kv=>if kv.1=k then (kv.1,v) else kv) else kvs++[(k,v)]
def b9 (kvs:List (κ × V)) (k:κ):List (κ × V):=kvs.filter fun kv=>decide (kv.1≠k)
theorem Wq {p:κ × V}{r:List (κ × V)}{k:κ} (e:p.1=k):valV (p::r) k=some p.2:=by simp [valV,List.find?_cons,e]
theorem Wr {p:κ × V}{r:List (κ × V)}{k:κ} (e:¬p.1=k):valV (p::r) k=valV r k:=by simp [valV,List.find?_cons,e]
theorem Ae4 (k:κ):∀ kvs:List (κ × V),(kvs.any fun kv=>decide (kv.1=k))=(valV kvs k).isSome
 | []=>rfl
 | p::r=>by
   rw [List.any_cons]
   by_cases e:p.1=k
   . simp only [Wq e,decide_eq_true e,Bool.true_or,Option.isSome_some]
   . rw [Wr e,decide_eq_false e,Bool.false_or];exact Ae4 k r
theorem L6 (kvs:List (κ × V)) (k:κ) (v:V):(putK kvs k v).length<=kvs.length+1:=by
 unfold putK
 split
 . rw [List.length_map];omega
 . rw [List.length_append,List.length_cons,List.length_nil];omega
theorem RelO.isSome_eq {o:Option V}{u:Option Value} (r:RelO o u):o.isSome=u.isSome:=by
 cases o with
 | none=>cases u with
   | none=>rfl
   | some _=>exact (show False from r).elim
 | some _=>cases u with
   | none=>exact (show False from r).elim
   | some _=>rfl
theorem RelO.getD {o:Option V}{u:Option Value}{d:V}{d':Value} (r:RelO o u) (rd:RelV d d'):RelV (o.getD d) (u.getD d'):=by
 cases o with
 | none=>cases u with
   | none=>exact rd
   | some _=>exact (show False from r).elim
 | some _=>cases u with
   | none=>exact (show False from r).elim
   | some _=>exact r
theorem KV.val {kvs:List (κ × V)}{vs:List (κ × Value)} (r:KV kvs vs) (k:κ):RelO (valV kvs k) (valueAt vs k):=by
 unfold KV at r
 induction r with
 | nil=>exact True.intro
 | @cons p q ps qs h t ih =>
   obtain⟨h1,h2⟩:=h
   by_cases e:p.1=k
   . have e':q.1=k:=h1.symm.trans e
     have b:valueAt (q::qs) k=some q.2:=by simp [valueAt,List.find?_cons,e']
     rw [Wq e,b];exact h2
   . have e':¬q.1=k:=fun z=>e (h1.trans z)
     have b:valueAt (q::qs) k=valueAt qs k:=by simp [valueAt,List.find?_cons,e']
     rw [Wr e,b];exact ih
theorem KV.any {kvs:List (κ × V)}{vs:List (κ × Value)} (r:KV kvs vs) (k:κ):(kvs.any fun kv=>decide (kv.1=k))=vs.any fun kv=>decide (kv.1=k):=by
 unfold KV at r
 induction r with
 | nil=>rfl
 | cons h t ih=>rw [List.any_cons,List.any_cons,ih,h.1]
theorem KV.repl {kvs:List (κ × V)}{vs:List (κ × Value)} (r:KV kvs vs) (k:κ) {y:V}{u:Value} (ry:RelV y u) :
 KV (kvs.map fun kv=>if kv.1=k then (kv.1,y) else kv) (vs.map fun kv=>if kv.1=k then (kv.1,u) else kv):=by
 unfold KV at r ⊢
 induction r with
 | nil=>exact .nil
 | @cons p q ps qs h t ih =>
   rw [List.map_cons,List.map_cons]
   refine .cons ?_ ih
   obtain⟨h1,h2⟩:=h
   by_cases e:p.1=k
   . rw [if_pos e,if_pos (h1.symm.trans e)];exact ⟨h1,ry⟩
   . rw [if_neg e,if_neg (fun z=>e (h1.trans z))];exact ⟨h1,h2⟩
theorem KV.put {kvs:List (κ × V)}{vs:List (κ × Value)} (r:KV kvs vs) (k:κ) {y:V}{u:Value} (ry:RelV y u):KV (putK kvs k y) (stored vs k u):=by
 unfold putK stored
 rw [r.any k]
 by_cases e:(vs.any fun kv=>decide (kv.1=k))=true
 . rw [if_pos e,if_pos e];exact r.repl k ry
 . rw [if_neg e,if_neg e];exact Paired.snoc r ⟨rfl,ry⟩
theorem KV.drop {kvs:List (κ × V)}{vs:List (κ × Value)} (r:KV kvs vs) (k:κ):KV (b9 kvs k) (without vs k):=by
 unfold KV at r ⊢
 unfold b9 without
 induction r with
 | nil=>exact .nil
 | @cons p q ps qs h t ih =>
   obtain⟨h1,h2⟩:=h
   rw [List.filter_cons,List.filter_cons]
   by_cases e:p.1=k
   . have a:¬decide (p.1≠k)=true:=by simp [e]
     have b:¬decide (q.1≠k)=true:=by simp [h1.symm.trans e]
     rw [if_neg a,if_neg b];exact ih
   . have e':¬q.1=k:=fun z=>e (h1.trans z)
     have a:decide (p.1≠k)=true:=by simp [e]
     have b:decide (q.1≠k)=true:=by simp [e']
     rw [if_pos a,if_pos b];exact .cons ⟨h1,h2⟩ ih
theorem KV.keys {kvs:List (κ × V)}{vs:List (κ × Value)} (r:KV kvs vs):kvs.map (·.1)=vs.map (·.1):=by
 unfold KV at r
 induction r with
 | nil=>rfl
 | cons h t ih=>rw [List.map_cons,List.map_cons,ih,h.1]
theorem KV.length {kvs:List (κ × V)}{vs:List (κ × Value)} (r:KV kvs vs):kvs.length=vs.length:=Paired.length r
theorem Ag2 (kvs:List (κ × V)) (k:κ):(b9 kvs k).length<=kvs.length:=List.length_filter_le _ _
end
theorem kV_is {P:Program}{w:World}{k:Key}{u:Value} (r:RelV (kV k) u):(mixKind P w).is k u=true:=by
 cases k with
 | inl i=>obtain⟨t,e⟩:=(show ∃ t,u=Value.int i t from r);subst e;exact Aa1 P w i t
 | inr x=>obtain⟨t,e⟩:=(show ∃ t,u=Value.str x t from r);subst e;exact Aa0 P w x t
theorem Z7 {P:Program}{w:World}:∀{ks:List Key}{us:List Value},Vals (ks.map kV) us->ItemsAre (mixKind P w) ks us
 | [],_,r=>by rw [List.map_nil] at r;cases r;exact .nil
 | k::ks,_,r=>by
   rw [List.map_cons] at r
   cases r with
   | cons h t=>exact .cons (kV_is h) (Z7 t)
abbrev KT (H:Hp):List (List Key × V)->List (List Key × Addr × Value)->Prop:=Paired fun p q=>p.1=q.1/\H q.2.1=some (.tup (p.1.map kV))/\RelV p.2 q.2.2
theorem KT.val {H:Hp}{kvs:List (List Key × V)}{xs:List (List Key × Addr × Value)} (r:KT H kvs xs) (k:List Key):RelO (valV kvs k) ((atKey xs k).map (·.2)):=by
 induction r with
 | nil=>exact True.intro
 | @cons p q ps qs h t ih =>
   obtain⟨h1,_,h2⟩:=h
   by_cases e:p.1=k
   . have e':q.1=k:=h1.symm.trans e
     have b:atKey (q::qs) k=some q.2:=by simp [atKey,List.find?_cons,e']
     rw [Wq e,b];exact h2
   . have e':¬q.1=k:=fun z=>e (h1.trans z)
     have b:atKey (q::qs) k=atKey qs k:=by simp [atKey,List.find?_cons,e']
     rw [Wr e,b];exact ih
theorem KT.repl {H:Hp}{kvs:List (List Key × V)}{xs:List (List Key × Addr × Value)} (r:KT H kvs xs) (k:List Key) {y:V}{u:Value} (ry:RelV y u) :
 KT H (kvs.map fun kv=>if kv.1=k then (kv.1,y) else kv) (xs.map (putAt k u)):=by
 induction r with
 | nil=>exact .nil
 | @cons p q ps qs h t ih =>
   rw [List.map_cons,List.map_cons]
   refine .cons ?_ ih
   obtain⟨h1,h2,h3⟩:=h
   unfold putAt
   by_cases e:p.1=k
   . rw [if_pos e,if_pos (h1.symm.trans e)];exact ⟨h1,h2,ry⟩
   . rw [if_neg e,if_neg (fun z=>e (h1.trans z))];exact ⟨h1,h2,h3⟩
theorem KT.put {H:Hp}{kvs:List (List Key × V)}{xs:List (List Key × Addr × Value)} (r:KT H kvs xs) (k:List Key) {b:Addr}{y:V}{u:Value} (hb:H b=some (.tup (k.map kV))) (ry:RelV y u) :
 KT H (putK kvs k y) (storedH xs k b u):=by
 have e:(kvs.any fun kv=>decide (kv.1=k))=(atKey xs k).isSome:=by
  rw [Ae4,(r.val k).isSome_eq,Option.isSome_map]
 unfold putK storedH
 rw [e]
 by_cases q:(atKey xs k).isSome=true
 . rw [if_pos q,if_pos q];exact r.repl k ry
 . rw [if_neg q,if_neg q];exact Paired.snoc r ⟨rfl,hb,ry⟩
theorem KT.keeps {H H':Hp}{kvs:List (List Key × V)}{xs:List (List Key × Addr × Value)} (r:KT H kvs xs) (ht:∀ b ys,H b=some (.tup ys)->H' b=some (.tup ys)):KT H' kvs xs :=
 Paired.mapP r fun _ _ z=>⟨z.1,ht _ _ z.2.1,z.2.2⟩
section
variable {P:Program}{w:World}{H:Hp}{h:Heap}{a:Addr}
theorem Bp3 {u:HO} (ok:HOk P w H h) (e:Rd H a u):ObjOk P w H h a u:=e.ok ok
theorem Pt {kvs:List (Key × V)} (ok:HOk P w H h) (e:Rd H a (.dK kvs)):kvs.length<=sizeLine/\(a==sysModules)=false/\∃ vs,KV kvs vs/\h.DictOf (mixKind P w) a vs :=
 show ObjOk P w H h a (.dK kvs) from Bp3 ok e
theorem A26 {kvs:List (Key × V)} (ok:HOk P w H h) (e:H a=some (.dK kvs)):kvs.length<=sizeLine/\(a==sysModules)=false/\∃ vs,KV kvs vs/\h.DictOf (mixKind P w) a vs:=Pt ok (.inl e)
theorem Vu {ks:List Key} (ok:HOk P w H h) (e:H a=some (.tup (ks.map kV))):(tupleKind (mixKind P w)).is h ks a:=by
 obtain⟨_,its,r,o,h1,h2,_,n,h3⟩:=(show ObjOk P w H h a (.tup (ks.map kV)) from ok a _ e)
 exact ⟨o,its.toArray,n,h1,h2,h3,by simpa using Z7 r⟩
theorem Ac2 {kvs:List (List Key × V)} (ok:HOk P w H h) (e:Rd H a (.dT kvs)):kvs.length<=sizeLine/\(a==sysModules)=false ∧
 ∃ xs,KT H kvs xs/\h.DictOfH (tupleKind (mixKind P w)) a xs:=by
 obtain⟨z,y,xs,r,o,es,ep,h1,h2,h3,h4,h5⟩:=(show ObjOk P w H h a (.dT kvs) from Bp3 ok e)
 refine⟨z,y,xs,r,o,es,ep,h1,h2,h3,h4,fun x hx=>?_,h5⟩
 have all:∀{l:List (List Key × V)}{m:List (List Key × Addr × Value)},KT H l m->∀ x∈m,(tupleKind (mixKind P w)).is h x.1 x.2.1:=by
  intro l m q
  induction q with
  | nil=>intro x hx;exact nomatch hx
  | @cons p q ps qs hq t ih =>
    intro x hx
    rcases List.mem_cons.mp hx with e | hx
    . subst e
      exact Vu ok (by rw [←hq.1];exact hq.2.1)
    . exact ih x hx
 exact all r x hx
theorem Bx0 {kvs:List (List Key × V)} (ok:HOk P w H h) (e:H a=some (.dT kvs)):kvs.length<=sizeLine/\(a==sysModules)=false ∧
 ∃ xs,KT H kvs xs/\h.DictOfH (tupleKind (mixKind P w)) a xs:=Ac2 ok (.inl e)
end
def DGet (H:Hp) (a:Addr) (y:V) (r:Option V):Prop :=
 (∃ kvs k,Rd H a (.dK kvs)/\y=kV k/\r=valV kvs k)\/∃ kvs k b,Rd H a (.dT kvs)/\y=.ref b/\H b=some (.tup (k.map kV))/\r=valV kvs k
def DPut (H:Hp) (a:Addr) (y v:V) (H':Hp):Prop :=
 (∃ kvs k,H a=some (.dK kvs)/\y=kV k/\kvs.length<sizeLine/\H'=upd H a (.dK (putK kvs k v))) ∨
 ∃ kvs k b,H a=some (.dT kvs)/\y=.ref b/\H b=some (.tup (k.map kV))/\kvs.length<sizeLine/\H'=upd H a (.dT (putK kvs k v))
theorem DGet.k {H:Hp}{a:Addr}{kvs:List (Key × V)}{k:Key} (e:H a=some (.dK kvs)):DGet H a (kV k) (valV kvs k):=.inl ⟨kvs,k,.inl e,rfl,rfl⟩
section
variable {X:Cx}{Ab:List (Addr × Obj)}{σ:St}{H:Hp}{s:Shared}{a:Addr}{y v:V}{u r:Value}{o:Option V}{A:Around}{E:Value->Shared->Prop}
theorem Inv.big (I:Inv X Ab σ H s):sysModules<s.heap.objs.size:=by
 have h:mainGlobals<s.heap.objs.size:=(I.mod.glob.keeps I.bk).lt
 exact Nat.lt_trans (by decide) h
theorem A38 {Q:Value->Shared->Prop} (hu:A.units+1<cLine) (I:Inv X Ab σ H s) (g:DGet H a y (some v)) (ry:RelV y u) (h:∀ w' s',Inv X Ab σ H s'->RelV v w'->Q w' s') :
 wpAny (model X.prog X.w) A (getItem (.ref a) u) Q E s:=by
 rcases g with ⟨kvs,k,e,ey,l⟩|⟨kvs,k,b,e,ey,eb,l⟩
 . subst ey
   obtain⟨z,hd,vs,rel,dd⟩:=Pt I.hok e
   obtain⟨w',hw,rw'⟩:=RelO.some_of (v:=v) (o:=valueAt vs k) (by rw [l];exact rel.val k)
   exact wpAny_getItem_of (kV_is ry) dd.mapOf hw (h w' _ (I.tok _) rw')
 . subst ey
   cases (show u=Value.ref b from ry)
   obtain⟨z,hd,xs,rel,dd⟩:=Ac2 I.hok e
   obtain⟨w',hw,rw'⟩:=RelO.some_of (v:=v) (o:=(atKey xs k).map (·.2)) (by rw [l];exact rel.val k)
   obtain⟨p,hp,hp2⟩:=Option.map_eq_some_iff.mp hw
   refine wpAny_getItem_heap (tupleKind_room_in1 hu) (Vu I.hok eb) dd hp ?_
   rw [hp2]
   exact h w' _ (I.tok _) rw'
theorem d_in {Q:Value->Shared->Prop} (hu:A.units+1<cLine) (I:Inv X Ab σ H s) (g:DGet H a y o) (ry:RelV y u) (h:∀ s',Inv X Ab σ H s'->Q (.bool o.isSome) s') :
 wpAny (model X.prog X.w) A (compareOp .In u (.ref a)) Q E s:=by
 rcases g with ⟨kvs,k,e,ey,l⟩|⟨kvs,k,b,e,ey,eb,l⟩
 . subst ey
   obtain⟨z,hd,vs,rel,dd⟩:=Pt I.hok e
   refine wpAny_in_of (kV_is ry) hd dd.mapOf ?_
   rw [←(rel.val k).isSome_eq,←l]
   exact h _ (I.tok _)
 . subst ey
   cases (show u=Value.ref b from ry)
   obtain⟨z,hd,xs,rel,dd⟩:=Ac2 I.hok e
   refine wpAny_in_heap (tupleKind_room_in1 hu) (Vu I.hok eb) hd dd ?_
   have q:=(rel.val k).isSome_eq
   rw [Option.isSome_map] at q
   rw [←q,←l]
   exact h _ (I.tok _)
theorem S1 {h':Heap}{t':Nat}{ob:HO} (I:Inv X Ab σ H s) (mu:Mut (H a)) (hs:Heap.SameBut a s.heap h') (he:∃ q,h'.get? a=some q) (new:ObjOk X.prog X.w (upd H a ob) h' a ob) :
 Inv X Ab σ (upd H a ob) { s with heap:=h',toks:=t' } :=
 I.write (x:=a) (e:=a) mu (.inl rfl) (fun b q hb z=>(hs.2 b hb).trans z) he new
theorem Vy {P:Program}{w:World}{H':Hp}{h':Heap}{kvs:List (Key × V)}{vs:List (Key × Value)} (z:kvs.length<=sizeLine) (hd:(a==sysModules)=false) (rel:KV kvs vs) (dd:h'.DictOf (mixKind P w) a vs) :
 ObjOk P w H' h' a (.dK kvs):=⟨z,hd,vs,rel,dd⟩
theorem A37 {H':Hp}{Q:Unit->Shared->Prop} (hu:A.units+1<cLine) (I:Inv X Ab σ H s) (g:DPut H a y v H') (ry:RelV y u) (rv:RelV v r) (h:∀ s',Inv X Ab σ H' s'->Q () s') :
 wpAny (model X.prog X.w) A (setItem (.ref a) u r) Q E s:=by
 rcases g with ⟨kvs,k,e,ey,l,eH⟩|⟨kvs,k,b,e,ey,eb,l,eH⟩
 . subst ey eH
   obtain⟨z,hd,vs,rel,dd⟩:=A26 I.hok e
   have hz:vs.length<=sizeLine:=by rw [←rel.length];exact z
   have hl:(putK kvs k v).length<=sizeLine:=by have:=L6 kvs k v;omega
   refine wpAny_setItem_pairs (hsz:=hz) (kV_is ry) dd fun h' dd' hs=>h _ ?_
   have he:∃ q,h'.get? a=some q:=let ⟨q,_,_,hq,_⟩:=dd';⟨q,hq⟩
   exact S1 I (by rw [e];exact True.intro) hs he (Vy hl hd (rel.put k rv) dd')
 . subst ey eH
   cases (show u=Value.ref b from ry)
   obtain⟨z,hd,xs,rel,dd⟩:=Bx0 I.hok e
   have hz:xs.length<=sizeLine:=by rw [←Paired.length rel];exact z
   have hl:(putK kvs k v).length<=sizeLine:=by have:=L6 kvs k v;omega
   refine wpAny_setItem_heap (hsz:=hz) (tupleKind_room_in1 hu) (Vu I.hok eb) dd fun h' dd' hs=>h _ ?_
   obtain⟨q,es,ep,hq,h2,h3,h4,_,h5⟩:=dd'
   refine S1 I (by rw [e];exact True.intro) hs ⟨q,hq⟩ ⟨hl,hd,_,(rel.put k eb rv).keeps fun c ys ec=>?_,q,es,ep,hq,h2,h3,h4,h5⟩
   rw [An (Hw ec e (fun z=>nomatch z))]
   exact ec
end
section
variable {X:Cx}{Ab:List (Addr × Obj)}{σ:St}{H:Hp}{s:Shared}{a:Addr}{kvs:List (Key × V)}{k:Key}{u:Value}{A:Around}{E:Value->Shared->Prop}
theorem Bu3 {Q:Unit->Shared->Prop} (I:Inv X Ab σ H s) (e:H a=some (.dK kvs)) (ry:RelV (kV k) u) (l:(valV kvs k).isSome=true) (h:∀ s',Inv X Ab σ (upd H a (.dK (b9 kvs k))) s'->Q () s') :
 wpAny (model X.prog X.w) A (delItem (.ref a) u) Q E s:=by
 obtain⟨z,hd,vs,rel,dd⟩:=A26 I.hok e
 refine wpAny_delItem_slot dd.typeIs (by decide) PySem.F.slot_dict_delitem
  (call_meetsIn PySem.F.slot_dict_delitem dd.typeIs PySem.F.entry_dict_delitem (PySem.F.args_dict_delitem_2 _ _) (meets_dict_delitem_pairs (mixKind X.prog X.w) a (kV_is ry)) ⟨vs,dd,by rw [←rel.length];exact z,by rw [←(rel.val k).isSome_eq];exact l,fun h' dd' hs=>h _ ?_⟩)
 have he:∃ q,h'.get? a=some q:=let ⟨q,_,_,hq,_⟩:=dd';⟨q,hq⟩
 exact S1 I (by rw [e];exact True.intro) hs he (Vy (Nat.le_trans (Ag2 kvs k) z) hd (rel.drop k) dd')
theorem Bx1 {v:V}{more:List Value}{Q:Value->Shared->Prop} (I:Inv X Ab σ H s) (e:H a=some (.dK kvs)) (ry:RelV (kV k) u) (l:valV kvs k=some v) (hm:more=[]\/∃ x,more=[x])
 (h:∀ w' s',Inv X Ab σ (upd H a (.dK (b9 kvs k))) s'->RelV v w'->Q w' s'):wpAny (model X.prog X.w) A (call (.builtin "dict.pop") (.ref a::u::more)) Q E s:=by
 obtain⟨z,hd,vs,rel,dd⟩:=A26 I.hok e
 obtain⟨w',hw,rw'⟩:=RelO.some_of (v:=v) (o:=valueAt vs k) (by rw [←l];exact rel.val k)
 have hp:(keyPart u).isSome=true:=by
  cases k with
  | inl i=>obtain⟨t,q⟩:=(show ∃ t,u=Value.int i t from ry);subst q;rfl
  | inr x=>obtain⟨t,q⟩:=(show ∃ t,u=Value.str x t from ry);subst q;rfl
 have ha:argsOk "dict.pop" ⟨.ref a::u::more,[]⟩:=by
  rcases hm with q|⟨x,q⟩
  . subst q;exact PySem.F.args_dict_pop_2 _ _
  . subst q;exact PySem.F.args_dict_pop_3 _ _ _
 refine call_meetsIn PySem.F.slot_dict_pop dd.typeIs PySem.F.entry_dict_pop ha (meets_dict_pop_there (mixKind X.prog X.w) a (kV_is ry) more hm hp)
  ⟨vs,w',dd,by rw [←rel.length];exact z,hw,fun h' dd' hs=>h w' _ ?_ rw'⟩
 have he:∃ q,h'.get? a=some q:=let ⟨q,_,_,hq,_⟩:=dd';⟨q,hq⟩
 exact S1 I (by rw [e];exact True.intro) hs he (Vy (Nat.le_trans (Ag2 kvs k) z) hd (rel.drop k) dd')
theorem Bu0 {r:Value}{Q:Value->Shared->Prop} (I:Inv X Ab σ H s) (e:H a=some (.dK kvs)) (ry:RelV (kV k) u) (l:valV kvs k=none) (h:∀ s',Inv X Ab σ H s'->Q r s') :
 wpAny (model X.prog X.w) A (call (.builtin "dict.pop") [.ref a,u,r]) Q E s:=by
 obtain⟨z,hd,vs,rel,dd⟩:=A26 I.hok e
 have hn:valueAt vs k=none:=RelO.none_of (by rw [←l];exact rel.val k)
 have hp:(keyPart u).isSome=true:=by
  cases k with
  | inl i=>obtain⟨t,q⟩:=(show ∃ t,u=Value.int i t from ry);subst q;rfl
  | inr x=>obtain⟨t,q⟩:=(show ∃ t,u=Value.str x t from ry);subst q;rfl
 exact call_meetsIn PySem.F.slot_dict_pop dd.typeIs PySem.F.entry_dict_pop (PySem.F.args_dict_pop_3 _ _ _) (meets_dict_pop_default (mixKind X.prog X.w) a (kV_is ry) hd hp r) ⟨vs,dd,hn,h _ (I.tok _)⟩
theorem Bx2 {Q:Value->Shared->Prop} (I:Inv X Ab σ H s) (e:Rd H a (.dK kvs)) (h:∀ t s',Inv X Ab σ H s'->Q (.int kvs.length t) s'):wpAny (model X.prog X.w) A (call (.builtin "len") [.ref a]) Q E s:=by
 obtain⟨z,hd,vs,rel,dd⟩:=Pt I.hok e
 refine call_len_dict hd dd (by rw [←rel.length];rw [sizeLine_eq] at z;omega) ?_
 rw [←rel.length]
 exact h _ _ (I.tok _)
end
def NoSl (i:Expr):Prop:=∀ ov iv,subscripted i false ov iv=operate [ov,iv] (getItem ov iv)
theorem Bf8 {prog:Program}{w:World}{A:Around}{E:Value->Shared->Prop}{s:Shared}{env:Env}{value slice:Expr}{pos:Pos}{T id:String}{Q:Value->Shared->Prop}
 (hl:typeLookup (.type T) "__getitem__"=pure (some (.builtin id))) (hs:NoSl slice)
 (h:wpAny (model prog w) A (eval value env) (fun o s₁=>wpAny (model prog w) A (eval slice env) (fun i s₂=>s₂.TypeIs o T/\wpAny (model prog w) A (getItem o i) Q E s₂) E s₁) E s) :
 wpAny (model prog w) A (eval (.Subscript value slice pos) env) Q E s:=by
 refine Subscript_ (wpAny_mono h (fun o s₁ h₁=>wpAny_mono h₁ (fun i s₂ h₂=>?_) fun _ _ x=>x) fun _ _ x=>x)
 obtain⟨hT,h₂⟩:=h₂
 unfold subscriptTail
 refine wpAny_bind ?_
 rw [getitemInPython_of_ne hT.not_modules]
 refine wpAny_bind (wpAny_specialOf hT hl ?_)
 have fin:wpAny (model prog w) A (subscripted slice false o i) (fun r s₃=>wpAny (model prog w) A (letTemporaryGo value o r>>=fun _=>pure r) Q E s₃) E s₂:=by
  rw [hs o i]
  exact wpAny_operating (wpAny_mono h₂ (fun r s₃ h₃=>wpAny_bind (wpAny_letTemporaryGo (wpAny_pure h₃))) fun _ _ x=>x)
 first
  | exact wpAny_pure (wpAny_bind fin)
  | exact wpAny_bind (wpAny_pure (wpAny_bind fin))
  | exact wpAny_bind fin
theorem Ac3 {X:Cx}{Ab:List (Addr × Obj)}{σ:St}{H:Hp}{s:Shared}{a:Addr}{y:V}{o:Option V} (I:Inv X Ab σ H s) (g:DGet H a y o):s.TypeIs (.ref a) "dict":=by
 rcases g with ⟨kvs,k,e,_,_⟩|⟨kvs,k,b,e,_,_,_⟩
 . obtain⟨_,_,vs,_,dd⟩:=Pt I.hok e
   exact dd.typeIs
 . obtain⟨_,_,xs,_,dd⟩:=Ac2 I.hok e
   exact dd.typeIs
def Bv4 (td ty:TE):TE:=fun σ H Q=>td σ H fun x H1=>ty σ H1 fun y H2=>∃ a v,x=.ref a/\DGet H2 a y (some v)/\Q v H2
def Bv6 (td ty tv:TE):TS:=fun D σ H=>tv σ H fun v H1=>td σ H1 fun x H2=>ty σ H2 fun y H3=>∃ a H4,x=.ref a/\DPut H3 a y v H4/\D.nx σ H4
section
variable {X:Cx}{o i e value:Expr}{pos pos' tpos:Pos}{td ty tv:TE}
theorem Xk (hu:X.A.units+1<cLine) (ho:PE X o td) (hi:PE X i ty) (hs:NoSl i):PE X (.Subscript o i pos) (Bv4 td ty):=by
 intro Ab s σ H Q I h
 refine Bf8 PySem.F.slot_dict_getitem.lookup hs (thn (ho Ab s σ H _ I h) fun u s1 ⟨x,H1,I1,rx,q1⟩=>thn (hi Ab s1 σ H1 _ I1 q1) fun iv s2 ⟨y,H2,I2,ry,a,v,ex,g,q2⟩=>?_)
 subst ex
 obtain rfl:u=Value.ref a:=rx
 exact ⟨Ac3 I2 g,A38 hu I2 g ry fun w' s3 I3 rw'=>⟨v,H2,I3,rw',q2⟩⟩
theorem Au7 (hu:X.A.units+1<cLine) (ho:PE X o td) (hi:PE X i ty) (hv:PE X value tv) (hs:swapsWith value (some (.Subscript o i pos')) pos.line X.env=pure false) :
 PS X (.Assign [.Subscript o i pos'] value pos) (Bv6 td ty tv):=by
 intro Ab s σ H D I h
 refine wpAny_Assign_Subscript (thn (hv Ab s σ H _ I h) fun r s1 ⟨v,H1,I1,rv,q1⟩=>thn (ho Ab s1 σ H1 _ I1 q1) fun u s2 ⟨x,H2,I2,rx,q2⟩=>thn (hi Ab s2 σ H2 _ I2 q2) fun iv s3 ⟨y,H3,I3,ry,a,H4,ex,g,q3⟩=>?_) hs
 subst ex
 obtain rfl:u=Value.ref a:=rx
 exact A37 hu I3 g ry rv fun s4 I4=>⟨σ,H4,I4,q3⟩
end
theorem dk_empty {P:Program}{w:World}{H:Hp} (h:Heap) (hb:sysModules<h.objs.size):ObjOk P w H (h.push { cls:=.type "dict",data:=.dict #[] }) h.objs.size (.dK []) :=
 ⟨Nat.zero_le _,beq_eq_false_iff_ne.mpr (Ne.symm (Nat.ne_of_lt hb)),[],.nil,Heap.DictOf.new h⟩
def Bo4:TE:=fun _ H Q=>∀ p,H p=none->Q (.ref p) (upd H p (.dK []))
section
variable {X:Cx}{pos:Pos}
theorem P5:PE X (.Dict [] [] pos) Bo4:=fun Ab s σ H Q I h =>
 wpAny_Dict_empty ⟨.ref s.heap.objs.size,_,I.laid (a:=s.heap.objs.size) (o:=.dK []) (t':=s.toks) (fun _ _ q=>Heap.get?_push_of_some _ q) (Nat.le_refl _) (dk_empty s.heap I.big),rfl,h _ (I.hok.fresh (Nat.le_refl _))⟩
end
def tPairs:List (TE × TE)->St->Hp->(List (V × V)->Hp->Prop)->Prop
 | [],_,H,Q=>Q [] H
 | (tk,tv)::r,σ,H,Q=>tk σ H fun x H1=>tv σ H1 fun y H2=>tPairs r σ H2 fun ps H3=>Q ((x,y)::ps) H3
abbrev VV:List (V × V)->List (Value × Value)->Prop:=Paired fun p q=>RelV p.1 q.1/\RelV p.2 q.2
def PPs (X:Cx) (pos:Pos) (keys:List (Option Expr)) (values:List Expr) (trs:List (TE × TE)):Prop :=
 ∀ (Ab:List (Addr × Obj)) (s:Shared) (σ:St) (H:Hp) (Q:List (V × V)->Hp->Prop),Inv X Ab σ H s->tPairs trs σ H Q →
   wpAny (model X.prog X.w) X.A (evalPairs (pairTrees keys values X.env pos)) (fun vs s'=>∃ ps H',Inv X Ab σ H' s'/\VV ps vs/\Q ps H') X.xe s
theorem Bh0 {X:Cx}{pos:Pos}:PPs X pos [] [] []:=fun Ab s σ H Q I h=>pairTrees_nil_walk ⟨[],H,I,.nil,h⟩
theorem A83 {X:Cx}{pos:Pos}{k v:Expr}{ks:List (Option Expr)}{vs:List Expr}{tk tv:TE}{trs:List (TE × TE)} (hk:PE X k tk) (hv:PE X v tv) (hr:PPs X pos ks vs trs) :
 PPs X pos (some k::ks) (v::vs) ((tk,tv)::trs):=fun Ab s σ H Q I h =>
 pairTrees_cons_walk (thn (hk Ab s σ H _ I h) fun u s1 ⟨x,H1,I1,rx,q1⟩=>thn (hv Ab s1 σ H1 _ I1 q1) fun w2 s2 ⟨y,H2,I2,ry,q2⟩ =>
  thn (hr Ab s2 σ H2 _ I2 q2) fun ws s3 ⟨ps,H3,I3,rel,q3⟩=>⟨(x,y)::ps,H3,I3,.cons ⟨rx,ry⟩ rel,q3⟩)
def Gw (kvs more:List (Key × V)):List (Key × V):=more.foldl (fun acc kv=>putK acc kv.1 kv.2) kvs
theorem KV.merge:∀{more:List (Key × V)}{rs:List (Key × Value)}{kvs:List (Key × V)}{vs:List (Key × Value)},KV more rs->KV kvs vs->KV (Gw kvs more) (merged vs rs):=by
 intro more rs kvs vs r
 unfold KV at r
 induction r generalizing kvs vs with
 | nil=>intro q;exact q
 | @cons p q ps qs h t ih =>
   intro r0
   have e:KV (putK kvs p.1 p.2) (stored vs q.1 q.2):=by
    have:=r0.put p.1 h.2
    rw [←h.1];exact this
   exact ih e
theorem Hz:∀ (more kvs:List (Key × V)),(Gw kvs more).length<=kvs.length+more.length
 | [],kvs=>by show kvs.length<=kvs.length+0;omega
 | p::r,kvs=>by
   have h1:=Hz r (putK kvs p.1 p.2)
   have h2:=L6 kvs p.1 p.2
   show (Gw (putK kvs p.1 p.2) r).length<=_
   rw [List.length_cons];omega
theorem V9 {P:Program}{w:World}:∀{kvs:List (Key × V)}{ws:List (Value × Value)},VV (kvs.map fun kv=>(kV kv.1,kv.2)) ws->∃ rs,Carries (mixKind P w) ws rs/\KV kvs rs
 | [],_,r=>by rw [List.map_nil] at r;cases r;exact ⟨[],True.intro,.nil⟩
 | p::kvs,_,r=>by
   rw [List.map_cons] at r
   cases r with
   | @cons a b as bs h t =>
     obtain⟨rs,c,q⟩:=V9 (P:=P) (w:=w) t
     obtain⟨b1,b2⟩:=b
     exact ⟨(p.1,b2)::rs,⟨kV_is h.1,rfl,c⟩,.cons ⟨rfl,h.2⟩ q⟩
def Bv3 (trs:List (TE × TE)):TE:=fun σ H Q=>∀ p,H p=none->tPairs trs σ (upd H p (.dK [])) fun ps H2=>H2 p=some (.dK [])/\∃ kvs:List (Key × V),ps=kvs.map (fun kv=>(kV kv.1,kv.2))/\kvs.length<=15/\Q (.ref p) (upd H2 p (.dK (Gw [] kvs)))
theorem Bi1 {X:Cx}{pos:Pos}{keys:List (Option Expr)}{values:List Expr}{trs:List (TE × TE)} (h:PPs X pos keys values trs) (hall:keys.all (·.isSome)=true) (hl:keys.length=values.length) (h0:keys≠[])
 (h15:keys.length<=15):PE X (.Dict keys values pos) (Bv3 trs):=by
 intro Ab s σ H Q I q
 have hn:=I.hok.fresh (Nat.le_refl s.heap.objs.size)
 have I1:=I.laid (a:=s.heap.objs.size) (o:=.dK []) (h':=s.heap.push { cls:=.type "dict",data:=.dict #[] }) (t':=s.toks) (fun _ _ q=>Heap.get?_push_of_some _ q) (Nat.le_refl _) (dk_empty s.heap I.big)
 refine wpAny_Dict_walk (knd:=mixKind X.prog X.w) hall hl h0 h15 (thn (h Ab _ σ _ _ I1 (q _ hn)) fun ws s2 ⟨ps,H2,I2,rel,e,kvs,ep,lk,q2⟩=>?_)
 subst ep
 obtain⟨rs,c,rk⟩:=V9 (P:=X.prog) (w:=X.w) rel
 obtain⟨z,hd,vs0,r0,dd⟩:=A26 I2.hok e
 cases r0
 refine⟨rs,c,dd,fun h' dd' hs=>⟨.ref s.heap.objs.size,_,?_,rfl,q2⟩⟩
 have hz:(Gw [] kvs).length<=sizeLine:=by
  have h1:=Hz kvs []
  rw [List.length_nil] at h1
  rw [sizeLine_eq];omega
 have he:∃ q,h'.get? s.heap.objs.size=some q:=let ⟨q,_,_,hq,_⟩:=dd';⟨q,hq⟩
 exact S1 I2 (by rw [e];exact True.intro) hs he (Vy hz hd (rk.merge .nil) dd')
structure M1 (X:Cx) (o:Expr) (m:Str) (apos:Pos) (e:Expr) (cpos:Pos):Prop where
 base:attributeBase o m X.env (eval o X.env)=eval o X.env
 few:((backTo cpos (starEach [e] X.env)).all (fun x=>!x.1)&&(backToKw cpos (keywordEach [] X.env)).all (fun x=>x.1.isSome)
  && decide (([e]:List Expr).length+([]:List Keyword).length+(if ([]:List Keyword).isEmpty then 0 else 1)<30))=true
 line:(apos.endLine==cpos.line)=true
 trees:backTo cpos (starEach [e] X.env)=[(false,eval e X.env)]
structure M2 (X:Cx) (o:Expr) (m:Str) (apos:Pos) (e f:Expr) (cpos:Pos):Prop where
 base:attributeBase o m X.env (eval o X.env)=eval o X.env
 few:((backTo cpos (starEach [e,f] X.env)).all (fun x=>!x.1)&&(backToKw cpos (keywordEach [] X.env)).all (fun x=>x.1.isSome)
  && decide (([e,f]:List Expr).length+([]:List Keyword).length+(if ([]:List Keyword).isEmpty then 0 else 1)<30))=true
 line:(apos.endLine==cpos.line)=true
 trees:backTo cpos (starEach [e,f] X.env)=[(false,eval e X.env),(false,eval f X.env)]
def IsD (H:Hp) (a:Addr):Prop:=(∃ kvs,Rd H a (.dK kvs))\/∃ kvs,Rd H a (.dT kvs)
theorem A05 {X:Cx}{Ab:List (Addr × Obj)}{σ:St}{H:Hp}{s:Shared}{a:Addr} (I:Inv X Ab σ H s) (d:IsD H a) :
 s.TypeIs (.ref a) "dict"/\(∀ b,Value.ref a=.ref b->∃ ob,s.heap.get? b=some ob/\ob.dict=none)/\(a==sysModules)=false:=by
 rcases d with ⟨kvs,e⟩|⟨kvs,e⟩
 . obtain⟨_,hd,vs,_,dd⟩:=Pt I.hok e
   refine⟨dd.typeIs,fun b q=>?_,hd⟩
   cases q
   obtain⟨ob,_,_,h1,h2,_⟩:=dd
   exact ⟨ob,h1,h2.2.1⟩
 . obtain⟨_,hd,xs,_,dd⟩:=Ac2 I.hok e
   refine⟨dd.typeIs,fun b q=>?_,hd⟩
   cases q
   obtain⟨ob,_,_,h1,h2,_⟩:=dd
   exact ⟨ob,h1,h2.2.1⟩
section
variable {X:Cx}{Ab:List (Addr × Obj)}{σ:St}{H:Hp}{s:Shared}{a:Addr}{y d:V}{u r:Value}{o:Option V}{A:Around}{E:Value->Shared->Prop}
theorem Bu2 {Q:Value->Shared->Prop} (hu:A.units+1<cLine) (I:Inv X Ab σ H s) (g:DGet H a y o) (ry:RelV y u) (h:∀ w' s',Inv X Ab σ H s'->RelV (o.getD .non) w'->Q w' s') :
 wpAny (model X.prog X.w) A (call (.builtin "dict.get") [.ref a,u]) Q E s:=by
 rcases g with ⟨kvs,k,e,ey,l⟩|⟨kvs,k,b,e,ey,eb,l⟩
 . subst ey
   obtain⟨z,hd,vs,rel,dd⟩:=Pt I.hok e
   refine call_meetsIn PySem.F.slot_dict_get dd.typeIs PySem.F.entry_dict_get (PySem.F.args_dict_get_2 _ _) (meets_dict_get (mixKind X.prog X.w) a (kV_is ry) hd) ⟨_,dd.mapOf,h _ _ (I.tok _) ?_⟩
   rw [l]
   exact (rel.val k).getD rfl
 . subst ey
   cases (show u=Value.ref b from ry)
   obtain⟨z,hd,xs,rel,dd⟩:=Ac2 I.hok e
   refine call_meetsIn PySem.F.slot_dict_get dd.typeIs PySem.F.entry_dict_get (PySem.F.args_dict_get_2 _ _) (meetsH_dict_get (tupleKind (mixKind X.prog X.w)) a b hd) ⟨tupleKind_room_in1 hu,k,xs,Vu I.hok eb,dd,h _ _ (I.tok _) ?_⟩
   rw [l]
   exact (rel.val k).getD rfl
theorem Bu1 {Q:Value->Shared->Prop} (hu:A.units+1<cLine) (I:Inv X Ab σ H s) (g:DGet H a y o) (ry:RelV y u) (rd:RelV d r) (h:∀ w' s',Inv X Ab σ H s'->RelV (o.getD d) w'->Q w' s') :
 wpAny (model X.prog X.w) A (call (.builtin "dict.get") [.ref a,u,r]) Q E s:=by
 rcases g with ⟨kvs,k,e,ey,l⟩|⟨kvs,k,b,e,ey,eb,l⟩
 . subst ey
   obtain⟨z,hd,vs,rel,dd⟩:=Pt I.hok e
   refine call_meetsIn PySem.F.slot_dict_get dd.typeIs PySem.F.entry_dict_get (PySem.F.args_dict_get_3 _ _ _) (meets_dict_get_default (mixKind X.prog X.w) a (kV_is ry) hd r) ⟨_,dd.mapOf,h _ _ (I.tok _) ?_⟩
   rw [l]
   exact (rel.val k).getD rd
 . subst ey
   cases (show u=Value.ref b from ry)
   obtain⟨z,hd,xs,rel,dd⟩:=Ac2 I.hok e
   refine call_meetsIn PySem.F.slot_dict_get dd.typeIs PySem.F.entry_dict_get (PySem.F.args_dict_get_3 _ _ _) (meetsH_dict_get_default (tupleKind (mixKind X.prog X.w)) a b hd r) ⟨tupleKind_room_in1 hu,k,xs,Vu I.hok eb,dd,h _ _ (I.tok _) ?_⟩
   rw [l]
   exact (rel.val k).getD rd
end
def tDGet1 (td ty:TE):TE:=fun σ H Q=>td σ H fun x H1=>∃ a,x=.ref a/\IsD H1 a/\ty σ H1 fun y H2=>∃ o,DGet H2 a y o/\Q (o.getD .non) H2
def Bo5 (td ty tx:TE):TE:=fun σ H Q=>td σ H fun x H1=>∃ a,x=.ref a/\IsD H1 a/\ty σ H1 fun y H2=>tx σ H2 fun z H3=>∃ o,DGet H3 a y o/\Q (o.getD z) H3
def Bo3 (td ty tx:TE):TE:=fun σ H Q=>td σ H fun x H1=>∃ a,x=.ref a/\IsD H1 a/\ty σ H1 fun y H2=>tx σ H2 fun z H3=>∃ kvs k,H3 a=some (.dK kvs)/\y=kV k ∧
 (∀ v,valV kvs k=some v->Q v (upd H3 a (.dK (b9 kvs k))))/\(valV kvs k=none->Q z H3)
section
variable {X:Cx}{o e f:Expr}{apos cpos:Pos}{td ty tx:TE}
theorem A92 (hu:X.A.units+1<cLine) (ho:PE X o td) (he:PE X e ty) (m:M1 X o "get" apos e cpos):PE X (.Call (.Attribute o "get" apos) [e] [] cpos) (tDGet1 td ty):=by
 intro Ab s σ H Q I h
 refine wpAny_Call_method m.base m.few m.line PySem.F.plainAttrs_dict PySem.F.slot_dict_get PySem.F.type_dict_get (thn (ho Ab s σ H _ I h) fun u s1 ⟨x,H1,I1,rx,a,ex,d,q1⟩=>?_)
 subst ex
 obtain rfl:u=Value.ref a:=rx
 obtain⟨t1,t2,_⟩:=A05 I1 d
 refine⟨t1,t2,?_⟩
 rw [m.trees]
 refine Calls.callWith_builtin rfl (Calls.evalArgs_plain (Calls.spliced_cons (thn (he Ab s1 σ H1 _ I1 q1) fun iv s2 ⟨y,H2,I2,ry,ov,g,q2⟩=>Calls.spliced_nil ?_)))
 exact Bu2 hu I2 g ry fun w' s3 I3 rw'=>⟨_,H2,I3,rw',q2⟩
theorem A91 (hu:X.A.units+1<cLine) (ho:PE X o td) (he:PE X e ty) (hf:PE X f tx) (m:M2 X o "get" apos e f cpos):PE X (.Call (.Attribute o "get" apos) [e,f] [] cpos) (Bo5 td ty tx):=by
 intro Ab s σ H Q I h
 refine wpAny_Call_method m.base m.few m.line PySem.F.plainAttrs_dict PySem.F.slot_dict_get PySem.F.type_dict_get (thn (ho Ab s σ H _ I h) fun u s1 ⟨x,H1,I1,rx,a,ex,d,q1⟩=>?_)
 subst ex
 obtain rfl:u=Value.ref a:=rx
 obtain⟨t1,t2,_⟩:=A05 I1 d
 refine⟨t1,t2,?_⟩
 rw [m.trees]
 refine Calls.callWith_builtin rfl (Calls.evalArgs_plain (Calls.spliced_cons (thn (he Ab s1 σ H1 _ I1 q1) fun iv s2 ⟨y,H2,I2,ry,q2⟩ =>
  Calls.spliced_cons (thn (hf Ab s2 σ H2 _ I2 q2) fun fv s3 ⟨z,H3,I3,rz,ov,g,q3⟩=>Calls.spliced_nil ?_))))
 exact Bu1 hu I3 g ry rz fun w' s4 I4 rw'=>⟨_,H3,I4,rw',q3⟩
theorem A90 (ho:PE X o td) (he:PE X e ty) (hf:PE X f tx) (m:M2 X o "pop" apos e f cpos):PE X (.Call (.Attribute o "pop" apos) [e,f] [] cpos) (Bo3 td ty tx):=by
 intro Ab s σ H Q I h
 refine wpAny_Call_method m.base m.few m.line PySem.F.plainAttrs_dict PySem.F.slot_dict_pop PySem.F.type_dict_pop (thn (ho Ab s σ H _ I h) fun u s1 ⟨x,H1,I1,rx,a,ex,d,q1⟩=>?_)
 subst ex
 obtain rfl:u=Value.ref a:=rx
 obtain⟨t1,t2,_⟩:=A05 I1 d
 refine⟨t1,t2,?_⟩
 rw [m.trees]
 refine Calls.callWith_builtin rfl (Calls.evalArgs_plain (Calls.spliced_cons (thn (he Ab s1 σ H1 _ I1 q1) fun iv s2 ⟨y,H2,I2,ry,q2⟩ =>
  Calls.spliced_cons (thn (hf Ab s2 σ H2 _ I2 q2) fun fv s3 ⟨z,H3,I3,rz,kvs,k,ea,ey,q3,q4⟩=>Calls.spliced_nil ?_))))
 subst ey
 cases l:valV kvs k with
 | some v=>exact Bx1 I3 ea ry l (.inr ⟨fv,rfl⟩) fun w' s4 I4 rw'=>⟨v,_,I4,rw',q3 v l⟩
 | none=>exact Bu0 I3 ea ry l fun s4 I4=>⟨z,H3,I4,rz,q4 l⟩
end
section
variable {X:Cx}{Ab:List (Addr × Obj)}{σ:St}{H:Hp}{s:Shared}{a:Addr}{kvs:List (Key × V)}{A:Around}{E:Value->Shared->Prop}
theorem Bc0 {Q:Value->Shared->Prop} (I:Inv X Ab σ H s) (e:Rd H a (.dK kvs)) (h:∀ p s',H p=none->Inv X Ab σ (upd H p (.dK kvs)) s'->Q (.ref p) s'):wpAny (model X.prog X.w) A (call (.type "dict") [.ref a]) Q E s:=by
 obtain⟨z,hd,vs,rel,dd⟩:=Pt I.hok e
 refine kt_call_dict hd dd (by rw [←rel.length];exact z) fun h' dd' hs=>?_
 refine h _ _ (I.hok.fresh (Nat.le_refl _)) (I.laid (a:=s.heap.objs.size) (o:=.dK kvs) (t':=s.toks) (fun b q hq=>?_) (Nat.le_refl _) (Vy z (beq_eq_false_iff_ne.mpr (Ne.symm (Nat.ne_of_lt I.big))) rel dd'))
 exact (hs.2 b (Nat.ne_of_lt (Heap.lt_size hq))).trans (Heap.get?_push_of_some _ hq)
end
section
variable {X:Cx}{Ab:List (Addr × Obj)}{σ:St}{H:Hp}{s:Shared}{a:Addr}{y:V}{u:Value}{A:Around}{E:Value->Shared->Prop}
end
end L2
namespace L2
open PySem PySem.Spec PyProof.Rows
section
variable {X:Cx}
theorem Th:Hl X (.builtin "len") (fun xs H Q=>∃ a kvs,xs=[V.ref a]/\H a=some (.dK kvs)/\Q (.int kvs.length) H):=by
 intro Ab s σ H xs us Q I r h
 obtain⟨a,kvs,rfl,ha,q⟩:=h
 obtain⟨u,rfl,ru⟩:=Y2 r
 cases ru
 exact Bx2 I (.inl ha) fun t s' I'=>⟨.int kvs.length,H,I',⟨t,rfl⟩,q⟩
end
end L2
namespace L2
open PySem PySem.Spec PyProof.Rows
def clOf (cells:List (Str × Addr)):List (Str × NameKind)->List (Str × Addr)->List (Str × Addr)
 | [],acc=>acc
 | (n,k)::r,acc=>clOf cells r (if (k==NameKind.free)=true then (n,(cells.lookup n).getD 0)::acc else acc)
theorem Oq {sc:Scope}{env:Env} (h:∀ n,(n,NameKind.free)∈sc.names->∃ c,env.cells.lookup n=some c):closureFor sc env=pure (clOf env.cells sc.names []):=by
 have all:∀ (l:List (Str × NameKind)) (acc:List (Str × Addr)),(∀ n,(n,NameKind.free)∈l->∃ c,env.cells.lookup n=some c) →
  (forIn l acc fun (x:Str × NameKind) (cs:List (Str × Addr))=>match x with
    | (name,kind)=>if (kind==NameKind.free)=true then (do let c ←cellOf env name;pure (ForInStep.yield ((name,c)::cs))) else pure (ForInStep.yield cs))=(pure (clOf env.cells l acc):Sem _):=by
  intro l
  induction l with
  | nil=>intro acc _;rfl
  | cons x r ih =>
    intro acc hl
    obtain⟨n,k⟩:=x
    rw [List.forIn_cons]
    by_cases hk:(k==NameKind.free)=true
    . have hk':k=NameKind.free:=by simpa using hk
      subst hk'
      obtain⟨c,hc⟩:=hl n List.mem_cons_self
      have e1:cellOf env n=pure c:=by unfold cellOf;rw [hc]
      simp only [beq_self_eq_true,if_true,e1,pure_bind]
      rw [ih _ fun m hm=>hl m (List.mem_cons_of_mem _ hm)]
      show _=(pure (clOf env.cells r (if (NameKind.free==NameKind.free)=true then (n,(env.cells.lookup n).getD 0)::acc else acc)):Sem _)
      rw [if_pos (by simp),hc]
      rfl
    . have hk2:(k==NameKind.free)=false:=by simpa using hk
      simp only [hk2,Bool.false_eq_true,if_false,pure_bind]
      rw [ih _ fun m hm=>hl m (List.mem_cons_of_mem _ hm)]
      show _=(pure (clOf env.cells r (if (k==NameKind.free)=true then (n,(env.cells.lookup n).getD 0)::acc else acc)):Sem _)
      rw [if_neg hk]
 have:=all sc.names [] h
 unfold closureFor
 dsimp only
 rw [this,pure_bind]
theorem Ct {cells:List (Str × Addr)}{x:Str}{c:Addr}:∀{l:List (Str × NameKind)}{acc:List (Str × Addr)},(∀ n,(n,NameKind.free)∈l->∃ c,cells.lookup n=some c) →
 (acc.lookup x=some c->cells.lookup x=some c)->(clOf cells l acc).lookup x=some c->cells.lookup x=some c
 | [],_,_,ha,h=>ha h
 | (n,k)::r,acc,hl,ha,h=>by
   refine Ct (l:=r) (fun m hm=>hl m (List.mem_cons_of_mem _ hm)) ?_ h
   by_cases hk:(k==NameKind.free)=true
   . rw [if_pos hk]
     have hk':k=NameKind.free:=by simpa using hk
     subst hk'
     obtain⟨d,hd⟩:=hl n List.mem_cons_self
     intro e
     rw [List.lookup_cons] at e
     cases hx:x==n with
     | true =>
       rw [hx] at e
       have hxn:x=n:=by simpa using hx
       subst hxn
       rw [hd] at e ⊢
       exact e
     | false=>rw [hx] at e;exact ha e
   . rw [if_neg hk];exact ha
theorem M4 {cells:List (Str × Addr)}{x:Str}:∀{l:List (Str × NameKind)}{acc:List (Str × Addr)},((x,NameKind.free)∈l\/∃ c,acc.lookup x=some c)->∃ c,(clOf cells l acc).lookup x=some c
 | [],_,h=>by
   rcases h with h | h
   . exact nomatch h
   . exact h
 | (n,k)::r,acc,h=>by
   refine M4 (l:=r) ?_
   by_cases hk:(k==NameKind.free)=true
   . rw [if_pos hk]
     by_cases hx:(x==n)=true
     . exact .inr ⟨(cells.lookup n).getD 0,by rw [List.lookup_cons,hx]⟩
     . have hx2:(x==n)=false:=by simpa using hx
       rcases h with h|⟨c,h⟩
       . rcases List.mem_cons.mp h with e | e
         . have e1:x=n:=congrArg Prod.fst e
           exact absurd (by simp [e1]) hx
         . exact .inl e
       . exact .inr ⟨c,by rw [List.lookup_cons,hx2];exact h⟩
   . rw [if_neg hk]
     rcases h with h | h
     . rcases List.mem_cons.mp h with e | e
       . have e2:NameKind.free=k:=congrArg Prod.snd e
         exact absurd (by simp [←e2]) hk
       . exact .inl e
     . exact .inr h
def Ex (X:Cx) (sc:Scope) (N':List Str) (C:Addr) (s₀:Shared) (H₀:Hp) (fp:List Addr):Cx where
 prog:=X.prog
 w:=X.w
 K:=X.K
 mg:=X.mg
 base:=X.base
 A:=X.A
 N:=N'
 s₀:=s₀
 H₀:=H₀
 env:=compEnvC sc (clOf X.env.cells sc.names []) C X.env
 outer:=X.stack
 stack:=X.stack
 ex:=fp
 fn:=fun _=>false
 calm:=X.calm
 pn:=[]
 xe:=fun _ _=>False
def capS (cap:List (Option Nat)) (σ:St):St:=cap.map fun o=>o.bind fun j=>(σ[j]?).join
structure m6 (X:Cx) (sc:Scope) (N':List Str) (cap:List (Option Nat)):Prop where
 kind:sc.kind=.function
 len:cap.length=N'.length
 nocell:∀ x∈sc.names,x.2≠NameKind.cell
 locals:∀ x∈sc.names,x.2=NameKind.local->sc.names.lookup x.1=some NameKind.local
 free:∀ n,(n,NameKind.free)∈sc.names->X.env.kindOf n=some .cell\/X.env.kindOf n=some .free
 slots:∀ (i j:Nat) (x:Str),N'[i]?=some x->cap[i]?=some (some j)->X.N[j]?=some x/\((relabel sc X.env).names.lookup x=some .cell\/(relabel sc X.env).names.lookup x=some .free)/\Vis X.env.scope x
section
variable {X:Cx}{sc:Scope}{N':List Str}{cap:List (Option Nat)}{Ab:List (Addr × Obj)}{σ:St}{H:Hp}{s:Shared}{C:Addr}{fp:List Addr}
theorem m6.cells (c:m6 X sc N' cap) (ok:X.Ok):∀ n,(n,NameKind.free)∈sc.names->∃ c,X.env.cells.lookup n=some c:=fun n hn=>ok.has n (c.free n hn)
theorem Hs {env:Env}{x:Str}{k:NameKind} (hnc:∀ x∈sc.names,x.2≠NameKind.cell) (h:(relabel sc env).names.lookup x=some k) (hk:k=.cell\/k=.free):(x,NameKind.free)∈sc.names:=by
 have all:∀ (l:List (Str × NameKind)),(∀ x∈l,x.2≠NameKind.cell)->(l.map fun (n,k)=>if (k==NameKind.free&&env.scope.kind==.function&&env.kindOf n==some .cell) then (n,NameKind.cell) else (n,k)).lookup x=some k->(x,NameKind.free)∈l:=by
  intro l
  induction l with
  | nil=>intro _ h;exact nomatch h
  | cons p r ih =>
    intro hn h
    obtain⟨n,q⟩:=p
    rw [List.map_cons,List.lookup_cons] at h
    by_cases hc:(q==NameKind.free&&env.scope.kind==.function&&env.kindOf n==some .cell)=true
    . have hq:q=NameKind.free:=by
       have:=hc
       simp only [Bool.and_eq_true] at this
       simpa using this.1.1
      simp only [hc,if_true] at h
      cases hx:x==n with
      | true =>
        have e:x=n:=by simpa using hx
        rw [e,hq]
        exact List.mem_cons_self
      | false =>
        rw [hx] at h
        exact List.mem_cons_of_mem _ (ih (fun y hy=>hn y (List.mem_cons_of_mem _ hy)) h)
    . simp only [hc] at h
      cases hx:x==n with
      | true =>
        have e:x=n:=by simpa using hx
        simp only [Bool.false_eq_true,if_false,hx] at h
        have e2:q=k:=by simpa using h
        rcases hk with z | z
        . exact absurd (e2.trans z) (hn (n,q) List.mem_cons_self)
        . rw [e,←z,←e2]
          exact List.mem_cons_self
      | false =>
        simp only [Bool.false_eq_true,if_false,hx] at h
        exact List.mem_cons_of_mem _ (ih (fun y hy=>hn y (List.mem_cons_of_mem _ hy)) h)
 exact all sc.names hnc h
theorem Bm5 (c:m6 X sc N' cap) (I:Inv X Ab σ H s) (hC:s.heap.objs.size<=C) (hf:∀ b∈fp,FpOk X Ab H b) (hb:∀ b∈fp,b<s.heap.objs.size):(Ex X sc N' C s H fp).Ok where
 mod:=I.ok.mod
 kind:=c.kind
 glob:=I.ok.glob
 blt:=I.ok.blt
 above:=hC
 inj:=fun x y a hx hy=>I.ok.inj x y a (Ct (c.cells I.ok) (fun z=>by simp at z) hx) (Ct (c.cells I.ok) (fun z=>by simp at z) hy)
 has:=fun x hx=>by
  refine M4 (.inl ?_)
  rcases hx with hx | hx
  . exact Hs c.nocell hx (.inl rfl)
  . exact Hs c.nocell hx (.inr rfl)
 cab:=fun _ _ h=>nomatch h
 hd:=I.ok.hd
 frames:=I.ok.frames
 stk:=.inl rfl
 exf:=fun b hb'=>⟨Nat.ne_of_lt (Nat.lt_of_lt_of_le (hb b hb') hC),fun x a e=>(hf b hb').2.2.2.2.1 x a (Ct (c.cells I.ok) (fun z=>by simp at z) e)⟩
 bs:=I.bs
 bsz:=Nat.le_trans I.ok.bsz I.sz
 noex:=fun b o e hb'=>by
  rcases (hf b hb').2.2.2.1 with z | z
  . exact I.ok.noex b o e z
  . exact absurd (Nat.lt_of_lt_of_le (Heap.lt_size e) (Nat.le_trans I.ok.bsz z)) (Nat.lt_irrefl _)
 exfs:=fun b hb' z=>by
  obtain⟨_,f1,f2,_⟩:=hf b hb'
  rcases List.mem_cons.mp (I.stkSub b z) with e | e
  . exact f1 e
  . exact f2 e
 funs:=I.stack
 frf:=I.stkFree
theorem Bc4 (c:m6 X sc N' cap) (I:Inv X Ab σ H s) {D:Addr}{h1:Heap}{t:Nat} (hC:C=s.heap.objs.size+1) (hD:D=s.heap.objs.size) (hf:∀ b∈fp,FpOk X Ab H b) (hb:∀ b∈fp,b<s.heap.objs.size)
 (hn:h1.Ns C fun _=>none) (hl:h1.get? D=some { cls:=.type "list",data:=.seq #[] 0 }) (k:∀ b o,s.heap.get? b=some o->h1.get? b=some o) :
 Inv (Ex X sc N' C s H fp) [] (capS cap σ) (upd H D (.lst [])) { s with heap:=h1,toks:=t }:=by
 have hCs:s.heap.objs.size<=C:=by rw [hC];exact Nat.le_succ _
 have hCD:C≠D:=by rw [hC,hD];exact Nat.succ_ne_self _
 have ok:=Bm5 (C:=C) (fp:=fp) c I hCs hf hb
 have hDn:H D=none:=by rw [hD];exact I.fresh
 have ltc:∀ x a,(clOf X.env.cells sc.names []).lookup x=some a->X.env.cells.lookup x=some a:=fun x a e=>Ct (c.cells I.ok) (fun z=>by simp at z) e
 have cel:∀ a v,s.heap.IsCell a v->h1.IsCell a v:=fun a v ⟨o,ho,hd⟩=>⟨o,k a o ho,hd⟩
 have ltD:∀ a v,s.heap.IsCell a v->a≠D:=fun a v ⟨o,ho,hd⟩=>by rw [hD];exact Nat.ne_of_lt (Heap.lt_size ho)
 refine⟨ok,rfl,I.bare,Un.laid k (by rw [hD];exact Nat.le_refl _) hDn,⟨_,hn,fun i x v e1 e2 e3=>?_⟩,fun x a e=>?_,?_,fun x a e=>?_,fun p hp=>absurd hp (by simp [Ex]),?_,?_⟩
 . have e2':cap[i]?.map (fun o=>o.bind fun j=>(σ[j]?).join)=some (some v):=by
    have:=e2
    unfold capS at this
    rw [List.getElem?_map] at this
    exact this
   cases hc:cap[i]? with
   | none=>rw [hc] at e2';cases e2'
   | some o =>
     rw [hc] at e2'
     cases o with
     | none=>cases e2'
     | some j =>
       have e4:(σ[j]?).join=some v:=by simpa using e2'
       obtain⟨q1,q2',q3⟩:=c.slots i j x e1 hc
       have q2:(x,NameKind.free)∈sc.names:=q2'.elim (fun z=>Hs c.nocell z (.inl rfl)) fun z=>Hs c.nocell z (.inr rfl)
       obtain⟨m,hm,hl'⟩:=I.loc
       have e5:σ[j]?=some (some v):=by
        cases z:σ[j]? with
        | none=>rw [z] at e4;cases e4
        | some y=>rw [z] at e4;cases y with
          | none=>cases e4
          | some y'=>cases e4;rfl
       obtain⟨u,r,l⟩:=hl' j x v q1 e5 q3
       refine⟨u,r,?_⟩
       obtain⟨a,ha⟩:=M4 (cells:=X.env.cells) (l:=sc.names) (acc:=[]) (x:=x) (.inl q2)
       have kd:X.env.kindOf x=some .cell\/X.env.kindOf x=some .free:=c.free x q2
       rcases l with ⟨hk,_⟩|⟨hk,a',ha',hcell⟩
       . rcases kd with z | z<;>rw [z] at hk<;>cases hk
       . have e6:a'=a:=by
          have:=ltc x a ha
          rw [ha'] at this
          exact Option.some.inj this
         refine .inr ⟨q2',a,ha,?_⟩
         rw [←e6]
         exact cel _ _ hcell
 . obtain⟨v,z⟩:=I.cell x a (ltc x a e)
   exact ⟨v,cel a v z⟩
 . show upd H D (.lst []) C=none
   rw [An hCD]
   exact I.hok.fresh hCs
 . show upd H D (.lst []) a=none
   obtain⟨v,z⟩:=I.cell x a (ltc x a e)
   rw [An (ltD a v z)]
   exact I.freeC x a (ltc x a e)
 . exact I.hok.laid k (by rw [hD];exact Nat.le_refl _) ⟨Nat.zero_le _,[],0,.nil,hl⟩
 . show (capS cap σ).length=N'.length
   unfold capS
   rw [List.length_map,c.len]
end
end L2
namespace L2
open PySem PySem.Spec PyProof.Rows
def capB (osc:Scope) (N:List Str) (sc:Scope) (N':List Str) (cap:List (Option Nat)):Bool :=
 decide (sc.kind=.function)&&decide (cap.length=N'.length)&&sc.names.all (fun x=>decide (x.2≠NameKind.cell))&&sc.names.all (fun x=>decide (x.2=NameKind.local->sc.names.lookup x.1=some NameKind.local)) &&
 sc.names.all (fun x=>decide (x.2=NameKind.free->(osc.names.lookup x.1=some .cell\/osc.names.lookup x.1=some .free))) &&
 (N'.zip cap).all (fun p=>match p.2 with
   | none=>true
   | some j=>decide (N[j]?=some p.1)&&decide (((sc.names.map fun (n,k)=>if (k==.free&&osc.kind==.function&&osc.names.lookup n==some .cell) then (n,NameKind.cell) else (n,k)).lookup p.1=some .cell) ∨
      ((sc.names.map fun (n,k)=>if (k==.free&&osc.kind==.function&&osc.names.lookup n==some .cell) then (n,NameKind.cell) else (n,k)).lookup p.1=some .free)) &&
     decide (osc.names.lookup p.1=some .local\/osc.names.lookup p.1=some .cell\/osc.names.lookup p.1=some .free))
theorem A52 {X:Cx}{sc:Scope}{N':List Str}{cap:List (Option Nat)} (h:capB X.env.scope X.N sc N' cap=true):m6 X sc N' cap:=by
 unfold capB at h
 rw [Bool.and_eq_true,Bool.and_eq_true,Bool.and_eq_true,Bool.and_eq_true,Bool.and_eq_true,List.all_eq_true,List.all_eq_true,List.all_eq_true,List.all_eq_true] at h
 obtain⟨⟨⟨⟨⟨h1,h2⟩,h3⟩,h4⟩,h5⟩,h6⟩:=h
 refine⟨of_decide_eq_true h1,of_decide_eq_true h2,fun x hx=>of_decide_eq_true (h3 x hx),fun x hx=>of_decide_eq_true (h4 x hx),fun n hn=>of_decide_eq_true (h5 _ hn) rfl,fun i j x e1 e2=>?_⟩
 have hm:(x,some j)∈N'.zip cap:=by
  have e:(N'.zip cap)[i]?=some (x,some j):=by
   rw [List.getElem?_zip_eq_some]
   exact ⟨e1,e2⟩
  exact List.mem_of_getElem? e
 have h7:=h6 _ hm
 dsimp only at h7
 rw [Bool.and_eq_true,Bool.and_eq_true] at h7
 obtain⟨⟨h8,h9⟩,h10⟩:=h7
 exact ⟨of_decide_eq_true h8,of_decide_eq_true (p:=(relabel sc X.env).names.lookup x=some .cell\/(relabel sc X.env).names.lookup x=some .free) h9,of_decide_eq_true (p:=X.env.scope.names.lookup x=some .local\/X.env.scope.names.lookup x=some .cell\/X.env.scope.names.lookup x=some .free) h10⟩
def PTs (X:Cx) (ifs:List Expr) (t:TT):Prop :=
 ∀ (Ab:List (Addr × Obj)) (s:Shared) (σ:St) (H:Hp) (Q:Bool->Hp->Prop),Inv X Ab σ H s->t σ H Q →
   wpAny (model X.prog X.w) X.A (forIn ifs true fun c r=>if r=true then do let ok ←isTrue c X.env (eval c X.env);pure (ForInStep.yield ok) else pure (ForInStep.yield r)) (TP X Ab σ Q) X.xe s
def tYes:TT:=fun _ H Q=>Q true H
theorem Fl {X:Cx}:PTs X [] tYes:=fun _ _ _ H _ I h=>wpAny_tests_nil ⟨H,I,h⟩
theorem F9 {X:Cx}{c:Expr}{t:TT} (h:PT X c t):PTs X [c] t:=fun Ab s σ H Q I hw=>wpAny_tests_one (h Ab s σ H Q I hw)
def RunC (J:It) (g:TG) (tc:TT) (te:TE) (D:Addr) (Q:Hp->Prop) (τ:St) (H:Hp):Prop :=
 ∃ W:Nat->Nat->List V->St->Hp->Prop,(∃ m,W 0 m [] τ H)/\∀ i m ys τ H,W i m ys τ H →
   (J.stop i H/\Q H) ∨
   (J.go i H/\∃ N:List V->St->Hp->Prop,(∀ ys' τ' H',N ys' τ' H'->∃ m',m'<m/\W (i+1) m' ys' τ' H') ∧
     ∀ x H',J.yld i H x H'->g x τ H' fun τ2 H2=>tc τ2 H2 fun b H3=>if b=true then te τ2 H3 fun y H4=>H4 D=some (.lst ys)/\ys.length<sizeLine/\N (ys++[y]) τ2 (upd H4 D (.lst (ys++[y]))) else N ys τ2 H3)
section
variable {X:Cx}{sc:Scope}{N':List Str}{cap:List (Option Nat)}{tg elt iter:Expr}{ifs:List Expr}{pos:Pos}{g:TG}{tc:TT}{te:TE}
theorem e7 {Y:Cx}{J:It}{fp:List Addr}{it D:Addr}{tn:Nat->Heap->Prop}{R:Result->Shared->Prop}{Q:Hp->Prop}{τ:St}{H:Hp}{s:Shared}
 (hx:Y.xe=fun _ _=>False) (hc:Y.calm=true) (hg:PG Y tg g) (ht:PTs Y ifs tc) (he:PE Y elt te) (T:Turn Y.prog Y.w Y.K tg J fp it tn) (st:tn 0 s.heap) (hf:∀ b∈fp,FpOk Y [] H b) (I:Inv Y [] τ H s)
 (h:RunC J g tc te D Q τ H) (hR:∀ τ' H' s',Inv Y [] τ' H' s'->Q H'->R (.ok .next) s') :
 codeAny (model Y.prog Y.w) Y.A (.compLoop (.ListComp elt [⟨tg,iter,ifs,0⟩] sc pos) 0 (.ref it) (.ref D) Y.env) R s:=by
 obtain⟨W,⟨m0,w0⟩,turn⟩:=h
 have stat:∀{H':Hp},(∀ b∈fp,H' b=none)->∀ b∈fp,FpOk Y [] H' b:=fun hn b hb=>⟨hn b hb,(hf b hb).2⟩
 have no:∀{P:Prop}{e:Value}{s':Shared},Y.xe e s'->P:=fun z=>by rw [hx] at z;exact z.elim
 refine codeAny_loop rfl (fun n s'=>∃ i ys τ' H',Inv Y [] τ' H' s'/\tn i s'.heap/\(∀ b∈fp,H' b=none)/\W i n ys τ' H') ?_ m0 ⟨0,[],τ,H,I,st,fun b hb=>(hf b hb).1,w0⟩
 rintro n s3 ⟨i,ys,τ3,H3,I3,st3,fr3,w3⟩
 show wpAny _ Y.A ((compTurn (.ListComp elt [⟨tg,iter,ifs,0⟩] sc pos) 0 (.ref it) (.ref D) Y.env).onRaise (fun x=>do noteFrame x Y.env;theTreesLotGoes x)) _ _ s3
 refine wpAny_noted ?_
 rw [compTurn_list]
 refine wpAny_bind (wpAny_standAt (wpAny_bind ?_))
 rcases turn i n ys τ3 H3 w3 with ⟨stop,qn⟩|⟨go,N,hN,step⟩
 . refine wpAny_mono (T.done Y rfl rfl rfl hc i [] s3 τ3 H3 (fun _ _=>False) I3 (stat fr3) st3 stop) (fun r s4 ⟨hr,I4⟩=>?_) fun _ _ z=>z.elim
   subst hr
   exact wpAny_pure (hR _ _ _ I4 qn)
 . refine wpAny_mono (T.item Y rfl rfl rfl hc i [] s3 τ3 H3 (fun _ _=>False) I3 (stat fr3) st3 go) (fun r s4 ⟨u,hr,h4⟩=>?_) fun _ _ z=>z.elim
   subst hr
   refine wpAny_bind (wpAny_mono h4 (fun _ s5 ⟨x,H5,I5,r5,y5,st5,fr5⟩=>?_) fun _ _ z=>z.elim)
   have I5':=I5.pinned (stat fr5) (T.obj _ _ st5)
   have again:∀{τ7:St}{H7:Hp}{ys7:List V}{s7:Shared},Inv Y ([]++Zj fp s5.heap) τ7 H7 s7->N ys7 τ7 H7->∃ m,m<n/\∃ i ys τ' H',Inv Y [] τ' H' s7/\tn i s7.heap/\(∀ b∈fp,H' b=none)/\W i m ys τ' H':=fun {τ7 H7 ys7 s7} I7 n7=>by
    obtain⟨m',hm,w7⟩:=hN ys7 τ7 H7 n7
    refine⟨m',hm,i+1,ys7,τ7,H7,I7.unpinned,T.keep _ _ _ st5 fun b hb o e=>(I7.pin (b,o) (List.mem_append_right _ (List.mem_append_right _ (Kw hb e)))).1,fun b hb=>?_,w7⟩
    obtain⟨o,e,d⟩:=T.obj _ _ st5 b hb
    exact (I7.pin (b,o) (List.mem_append_right _ (List.mem_append_right _ (Kw hb e)))).2.1
   refine wpAny_bind (wpAny_mono (hg _ s5 τ3 H5 x u _ I5' r5 (step x H5 y5)) (fun _ s6 ⟨τ6,H6,I6,q6⟩=>?_) fun _ _ z=>no z)
   refine wpAny_bind (wpAny_mono (ht _ s6 τ6 H6 _ I6 q6) (fun ok s7 ⟨H7,I7,q7⟩=>?_) fun _ _ z=>no z)
   cases ok with
   | false =>
     have q8:N ys τ6 H7:=by simpa using q7
     exact wpAny_pure ⟨rfl,again I7 q8⟩
   | true =>
     have q8:te τ6 H7 fun y H4=>H4 D=some (.lst ys)/\ys.length<sizeLine/\N (ys++[y]) τ6 (upd H4 D (.lst (ys++[y]))):=by simpa using q7
     refine wpAny_bind (wpAny_bind (wpAny_mono (he _ s7 τ6 H7 _ I7 q8) (fun y s8 ⟨v8,H8,I8,r8,hD,hl,n8⟩=>?_) fun _ _ z=>no z))
     refine wpAny_bind (wpAny_mono (Do _ s8 τ6 H8 (.ref D) [v8] (.ref D) [y] (fun _ H9=>N (ys++[v8]) τ6 H9) I8 rfl (.cons r8 .nil) ⟨D,ys,v8,rfl,rfl,hD,hl,n8⟩) (fun _ s9 ⟨_,H9,I9,_,n9⟩=>?_) fun _ _ z=>no z)
     exact wpAny_pure (wpAny_pure ⟨rfl,again I9 n9⟩)
theorem V1 {Ab:List (Addr × Obj)}{σ:St}{H:Hp}{s:Shared}{J:It}{fp:List Addr}{it:Addr}{tn:Nat->Heap->Prop}{RR:Value->Addr->Result->Shared->Prop}{Q:Addr->Hp->Prop}{E:Value->Shared->Prop}
 (c:m6 X sc N' cap) (hc:X.calm=true) (hg:∀ C s₀ H₀ fp,PG (Ex X sc N' C s₀ H₀ fp) tg g) (ht:∀ C s₀ H₀ fp,PTs (Ex X sc N' C s₀ H₀ fp) ifs tc) (he:∀ C s₀ H₀ fp,PE (Ex X sc N' C s₀ H₀ fp) elt te)
 (I:Inv X Ab σ H s) (T:Turn X.prog X.w X.K tg J fp it tn) (st:tn 0 s.heap) (hf:∀ b∈fp,FpOk X Ab H b)
 (h:∀ D,H D=none->RunC J g tc te D (Q D) (capS cap σ) (upd H D (.lst [])))
 (hR:∀ D C s' H' m',H D=none->s.heap.objs.size<=C->s'.os=s.os->AllBare s'.gens->Un (frs X.stack) fp H H' s.heap s'.heap->HOk X.prog X.w H' s'.heap->s'.heap.Ns C m'->H' C=none->C ∉ fp->Q D H'->RR (.ref D) C (.ok .next) s') :
 wpAny (model X.prog X.w) X.A (newList []) (fun acc s₃=>wpAny (model X.prog X.w) X.A (newFunctionEnv sc X.env.globals (clOf X.env.cells sc.names []) [] X.env.qual none .none (some X.env)) (fun cenv s₄ =>
  codeAny (model X.prog X.w) X.A (.compStart (.ListComp elt [⟨tg,iter,ifs,0⟩] sc pos) 0 (.ref it) acc { cenv with scope:=relabel sc X.env }) (RR acc cenv.locals) s₄) E s₃) E s:=by
 have hb:∀ b∈fp,b<s.heap.objs.size:=fun b hb=>by
  obtain⟨o,e,_⟩:=T.obj _ _ st b hb
  exact Heap.lt_size e
 refine wpAny_newObj_type (wpAny_newFunctionEnv c.nocell (by intro y hy;simp at hy) (fun h₁ hns₁ hsb₁=>?_) c.kind)
 dsimp only at hns₁ hsb₁ ⊢
 generalize hH2:s.heap.push { cls:=.type "list",dict:=none,data:=.seq ([]:List Value).toArray }=H2 at hns₁ hsb₁ ⊢
 have hC:H2.objs.size=s.heap.objs.size+1:=by rw [←hH2,Heap.size_push]
 have hCl:s.heap.objs.size<=H2.objs.size:=by rw [hC];exact Nat.le_succ _
 have hCn:s.heap.objs.size≠H2.objs.size:=by rw [hC];exact (Nat.succ_ne_self _).symm
 have old:∀ b o,s.heap.get? b=some o->h₁.get? b=some o:=fun b o e=>by
  have l1:=Heap.lt_size e
  exact hsb₁.extBut b o (Nat.ne_of_lt (Nat.lt_of_lt_of_le l1 hCl)) (Heap.get?_push_of_some _ (hH2▸Heap.get?_push_of_some _ e))
 have hl:h₁.get? s.heap.objs.size=some { cls:=.type "list",data:=.seq #[] 0 }:=hsb₁.extBut _ _ hCn (Heap.get?_push_of_some _ (hH2▸Heap.get?_push_size _ rfl))
 have hns₂:h₁.Ns H2.objs.size fun _=>none:=by simpa using hns₁
 have I4:Inv (Ex X sc N' H2.objs.size s H fp) [] (capS cap σ) (upd H s.heap.objs.size (.lst [])) { s with heap:=h₁,toks:=s.toks+([]:List (Str × Value)).length }:=Bc4 c I hC rfl hf hb hns₂ hl old
 have hfr:H s.heap.objs.size=none:=I.fresh
 have f4:∀ b∈fp,FpOk (Ex X sc N' H2.objs.size s H fp) [] (upd H s.heap.objs.size (.lst [])) b:=fun b hb'=>by
  obtain⟨f0,f1,f2,f3,f4,f5⟩:=hf b hb'
  have lb:=hb b hb'
  refine⟨by rw [An (Nat.ne_of_lt lb)];exact f0,(Nat.ne_of_lt (Nat.lt_of_lt_of_le lb hCl):b≠H2.objs.size),fun z=>?_,.inl hb',fun x a e=>f4 x a (Ct (c.cells I.ok) (fun z=>by simp at z) e),fun p hp=>absurd hp (by simp [Ex])⟩
  rcases List.mem_cons.mp (I.stkSub b z) with e | e
  . exact f1 e
  . exact f2 e
 have st4:tn 0 h₁:=T.keep _ _ _ st fun b _ o e=>old b o e
 have loop:∀ s₅:Shared,s₅={ s with heap:=h₁,toks:=s.toks+([]:List (Str × Value)).length } →
  codeAny (model X.prog X.w) X.A (.compLoop (.ListComp elt [⟨tg,iter,ifs,0⟩] sc pos) 0 (.ref it) (.ref s.heap.objs.size) (Ex X sc N' H2.objs.size s H fp).env) (RR (.ref s.heap.objs.size) H2.objs.size) s₅:=by
  rintro s₅ rfl
  refine e7 (Y:=Ex X sc N' H2.objs.size s H fp) (J:=J) (fp:=fp) (tn:=tn) (Q:=Q s.heap.objs.size) rfl hc (hg _ _ _ _) (ht _ _ _ _) (he _ _ _ _) T st4 f4 I4 (h _ hfr) fun τ' H' s' I' q'=>?_
  obtain⟨m',hn',_⟩:=I'.loc
  exact hR _ _ s' H' m' hfr hCl I'.os I'.bare I'.base I'.hok hn' I'.free (fun z=>absurd (Nat.lt_of_lt_of_le (hb _ z) hCl) (Nat.lt_irrefl _)) q'
 exact codeAny_compStart_list (loop _ rfl) (T.self _ 0 _ _ _ st4 (loop _ rfl))
def Bf7 (wi:TI) (cap:List (Option Nat)) (g:TG) (tc:TT) (te:TE):TE:=fun σ H Q=>wi σ H fun J H1=>∀ D,H1 D=none->RunC J g tc te D (fun H'=>Q (.ref D) H') (capS cap σ) (upd H1 D (.lst []))
theorem Inv.fpCh {Ab:List (Addr × Obj)}{H:Hp}{fp:List Addr} (hf:∀ b∈fp,FpOk X Ab H b):∀ b∈fp,(b∈X.ex\/X.s₀.heap.objs.size<=b)/\b≠X.env.locals/\(∀ x c,X.env.cells.lookup x=some c->c≠b)/\∀ p∈X.pn++Ab,p.1≠b :=
 fun b hb=>let ⟨_,f1,_,f3,f4,f5⟩:=hf b hb;⟨f3,f1,f4,f5⟩
theorem Dj {wi:TI} (hc:X.calm=true) (hcap:capB X.env.scope X.N sc N' cap=true) (hi:PI X tg iter wi) (hg:∀ C s₀ H₀ fp,PG (Ex X sc N' C s₀ H₀ fp) tg g) (ht:∀ C s₀ H₀ fp,PTs (Ex X sc N' C s₀ H₀ fp) ifs tc)
 (he:∀ C s₀ H₀ fp,PE (Ex X sc N' C s₀ H₀ fp) elt te) (hs:∀ x,foldedSetIterable iter X.env x=pure x:=by intro _;rfl):PE X (.ListComp elt [⟨tg,iter,ifs,0⟩] sc pos) (Bf7 wi cap g tc te):=by
 intro Ab s σ H Q I h
 have c:m6 X sc N' cap:=A52 hcap
 rw [eval_ListComp]
 refine wpAny_comprehension_free (use:=none) rfl hs (Oq (c.cells I.ok)) c.kind c.locals (thn (hi Ab s σ H _ I h) fun v s1 h1=>thn h1 fun itv s2 h2=>?_)
 obtain⟨it,fp,tn,J,H2,e,I2,T,st2,f2,hW⟩:=h2
 subst e
 refine V1 (RR:=fun acc C=>compPost (model X.prog X.w) X.A X.xe none (EP X Ab σ Q) acc C) (Q:=fun D H'=>Q (.ref D) H') c hc hg ht he I2 T st2 f2 hW ?_
 intro D C s' H' m' hD hC hos hbare hun hok hn hHC hCf q
 refine⟨m',hn,fun h' hsb=>?_⟩
 have I3:Inv X Ab σ H' s':=I2.call' hos hun hok hbare (Inv.fpCh f2)
 have f3:FpOk X Ab H' C:=I2.fpOk hC hHC
 obtain⟨_,k1,_,k3,k4,k5⟩:=f3
 have I4:Inv X Ab σ H' { s' with heap:=h' }:=I3.turned (t':=s'.toks) (fun b o hb e=>(hsb.2 b hb).trans e) hHC k1 k3 k4 k5
 exact ⟨.ref D,H',I4,rfl,q⟩
theorem Xd {wi:TI}{i:Nat}{x:Str}{px spos:Pos} (hN:X.N.Nodup) (hi':X.N[i]?=some x) (hx:Loc X.env.scope x) (hc:X.calm=true) (hcap:capB X.env.scope X.N sc N' cap=true) (hi:PI X tg iter wi)
 (hg:∀ C s₀ H₀ fp,PG (Ex X sc N' C s₀ H₀ fp) tg g) (ht:∀ C s₀ H₀ fp,PTs (Ex X sc N' C s₀ H₀ fp) ifs tc) (he:∀ C s₀ H₀ fp,PE (Ex X sc N' C s₀ H₀ fp) elt te)
 (hsw:swapsWith (.ListComp elt [⟨tg,iter,ifs,0⟩] sc pos) (some (.Name x px)) spos.line X.env=pure true:=by rfl)
 (hs:∀ x,foldedSetIterable iter X.env x=pure x:=by intro _;rfl) (hf:X.fn x=true\/X.env.scope.names.lookup x=some .local:=by first | exact .inl rfl | exact .inr rfl | assumption) :
 PS X (.Assign [.Name x px] (.ListComp elt [⟨tg,iter,ifs,0⟩] sc pos) spos) (tAsg (Bf7 wi cap g tc te) (Ao6 i)):=by
 intro Ab s σ H D I h
 have c:m6 X sc N' cap:=A52 hcap
 rw [exec_Assign_Name_used _ _ _ _ hsw]
 refine wpAny_bind (wpAny_standAt (wpAny_bind ?_))
 show wpAny _ X.A (do let _ ←comprehension (.ListComp elt [⟨tg,iter,ifs,0⟩] sc pos) sc X.env _ (newList []) false (eval iter X.env) (some (assign (.Name x px) X.env))) _ _ s
 refine wpAny_bind (thn (wpAny_comprehension_free (use:=some (assign (.Name x px) X.env)) (Q:=fun _ s'=>SP X Ab D .next s') rfl hs (Oq (c.cells I.ok)) c.kind c.locals
  (thn (hi Ab s σ H _ I h) fun v s1 h1=>thn h1 fun itv s2 h2=>?_)) fun _ s' hq=>wpAny_pure (wpAny_pure hq))
 obtain⟨it,fp,tn,J,H2,e,I2,T,st2,f2,hW⟩:=h2
 subst e
 refine V1 (RR:=fun acc C=>compPost (model X.prog X.w) X.A X.xe (some (assign (.Name x px) X.env)) (fun _ s'=>SP X Ab D .next s') acc C) (Q:=fun A H'=>Ao6 i (.ref A) σ H' D.nx) c hc hg ht he I2 T st2 f2 hW ?_
 intro A C s' H' m' hD hC hos hbare hun hok hn hHC hCf q
 have I3:Inv X Ab σ H' s':=I2.call' hos hun hok hbare (Inv.fpCh f2)
 have f3:FpOk X Ab H' C:=I2.fpOk hC hHC
 obtain⟨_,k1,_,k3,k4,k5⟩:=f3
 show wpAny _ X.A (assign (.Name x px) X.env (.ref A)) _ _ s'
 refine wpAny_assign_Name (Qd I3 hN hi' hx (v:=.ref A) rfl (fun s'' I'' ⟨a,hsb,ha⟩=>?_) hf)
 have hCa:C≠a:=by
  rcases ha with z | z
  . rw [z];exact k1
  . exact fun z'=>k4 x a z z'.symm
 refine⟨m',hn.sameBut hsb hCa,fun h' hsb'=>?_⟩
 have I4:Inv X Ab (σ.set i (some (.ref A))) H' { s'' with heap:=h' }:=I''.turned (t':=s''.toks) (fun b o hb e=>(hsb'.2 b hb).trans e) hHC k1 k3 k4 k5
 exact ⟨_,H',I4,q⟩
end
section
variable {g:TG}{tc:TT}{te:TE}{D:Addr}{Q:Hp->Prop}{τ:St}{H:Hp}
theorem Mz {K:W.Frag}{a:Addr}{xs:List V} (Pv:Nat->List V->St->Hp->Prop) (h0:Pv 0 [] τ H) (hl:∀ i ys τ H,i<=xs.length->Pv i ys τ H->SqL K H a xs)
 (hs:∀ i x ys τ H,xs[i]?=some x->Pv i ys τ H->g x τ H fun τ2 H2=>tc τ2 H2 fun b H3=>if b=true then te τ2 H3 fun y H4=>H4 D=some (.lst ys)/\ys.length<sizeLine/\Pv (i+1) (ys++[y]) τ2 (upd H4 D (.lst (ys++[y]))) else Pv (i+1) ys τ2 H3)
 (hd:∀ ys τ H,Pv xs.length ys τ H->Q H):RunC (Itl K a) g tc te D Q τ H:=by
 refine⟨fun i m ys τ H=>m=xs.length-i/\i<=xs.length/\Pv i ys τ H,⟨xs.length,by simp,Nat.zero_le _,h0⟩,?_⟩
 rintro i m ys τ H ⟨rfl,hi,p⟩
 have q:=hl i ys τ H hi p
 by_cases hlt:i<xs.length
 . refine .inr ⟨⟨xs,xs[i],q,by simp [hlt]⟩,Pv (i+1),fun ys' τ' H' p'=>⟨xs.length-(i+1),by omega,rfl,hlt,p'⟩,fun x H' y=>?_⟩
   obtain⟨e,y⟩:=y
   subst e
   exact hs i x ys τ _ (y xs q) p
 . have e:i=xs.length:=by omega
   subst e
   exact .inl ⟨⟨xs,q,Nat.le_refl _⟩,hd ys τ H p⟩
theorem Bc2 {K:W.Frag}{a:Addr}{xs:List V} (Pv:Nat->List V->St->Hp->Prop) (h0:Pv 0 [] τ H) (hl:∀ i ys τ H,i<=xs.length->Pv i ys τ H->SqT K H a xs)
 (hs:∀ i x ys τ H,xs[i]?=some x->Pv i ys τ H->g x τ H fun τ2 H2=>tc τ2 H2 fun b H3=>if b=true then te τ2 H3 fun y H4=>H4 D=some (.lst ys)/\ys.length<sizeLine/\Pv (i+1) (ys++[y]) τ2 (upd H4 D (.lst (ys++[y]))) else Pv (i+1) ys τ2 H3)
 (hd:∀ ys τ H,Pv xs.length ys τ H->Q H):RunC (Itt K a) g tc te D Q τ H:=by
 refine⟨fun i m ys τ H=>m=xs.length-i/\i<=xs.length/\Pv i ys τ H,⟨xs.length,by simp,Nat.zero_le _,h0⟩,?_⟩
 rintro i m ys τ H ⟨rfl,hi,p⟩
 have q:=hl i ys τ H hi p
 by_cases hlt:i<xs.length
 . refine .inr ⟨⟨xs,xs[i],q,by simp [hlt]⟩,Pv (i+1),fun ys' τ' H' p'=>⟨xs.length-(i+1),by omega,rfl,hlt,p'⟩,fun x H' y=>?_⟩
   obtain⟨e,y⟩:=y
   subst e
   exact hs i x ys τ _ (y xs q) p
 . have e:i=xs.length:=by omega
   subst e
   exact .inl ⟨⟨xs,q,Nat.le_refl _⟩,hd ys τ H p⟩
theorem Fh {lo:Int}{n:Nat} (Pv:Nat->List V->St->Hp->Prop) (h0:Pv 0 [] τ H)
 (hs:∀ i ys τ H,i<n->Pv i ys τ H->g (.int (lo+i)) τ H fun τ2 H2=>tc τ2 H2 fun b H3=>if b=true then te τ2 H3 fun y H4=>H4 D=some (.lst ys)/\ys.length<sizeLine/\Pv (i+1) (ys++[y]) τ2 (upd H4 D (.lst (ys++[y]))) else Pv (i+1) ys τ2 H3)
 (hd:∀ ys τ H,Pv n ys τ H->Q H):RunC (Itr lo n) g tc te D Q τ H:=by
 refine⟨fun i m ys τ H=>m=n-i/\i<=n/\Pv i ys τ H,⟨n,by simp,Nat.zero_le _,h0⟩,?_⟩
 rintro i m ys τ H ⟨rfl,hi,p⟩
 by_cases hlt:i<n
 . refine .inr ⟨hlt,Pv (i+1),fun ys' τ' H' p'=>⟨n-(i+1),by omega,rfl,hlt,p'⟩,fun x H' y=>?_⟩
   obtain⟨e,y⟩:=y
   subst e y
   exact hs i ys τ _ hlt p
 . have e:i=n:=by omega
   subst e
   exact .inl ⟨Nat.le_refl _,hd ys τ H p⟩
end
end L2
namespace L2
open PySem PySem.Spec PyProof.Rows PySem.SeqAt
def cK (ms:List (Int × Int)):List (Key × V):=ms.map fun p=>(Sum.inl p.1,V.int p.2)
def lookI (ms:List (Int × Int)) (k:Int):Option Int:=(ms.find? fun p=>decide (p.1=k)).map (·.2)
end L2
namespace L2
open PySem PySem.Spec PyProof.Rows
section
variable {prog:Program}{w:World}{A:Around}{E:Value->Shared->Prop}
theorem Zx:typeLookup (.type "list") "keys"=pure none:=am_miss_of_fast (by kernel_rfl)
theorem Uz {s:Shared}{a:Addr}{xs:Array Value}{k:Nat}{Q:Option Value->Shared->Prop}
 (hx:s.heap.get? a=some { cls:=.type "list",data:=.seq xs k }) (hA:A.handled=none)
 (h:∀ h' tk,(∀ b o,s.heap.get? b=some o->h'.get? b=some o)->Q none { s with heap:=h',toks:=tk }) :
 wpAny (model prog w) A (getAttr? (.ref a) "keys") Q E s:=by
 obtain⟨hp,g,d,tk,os⟩:=s
 have hT:∀ tk',(⟨hp,g,d,tk',os⟩:Shared).TypeIs (.ref a) "list":=fun _=>⟨_,hx,rfl⟩
 have f1:=sub_AttributeError
 have f3:=F.slot_list_getattribute.lookup
 have f4:=F.slot_list_getattribute.bind (.ref a)
 have f5:=am_list_getattr_none
 unfold getAttr? getAttrBy? getAttrBy
 repeat (any_goals (first | assumption | exact hT _ | ((with_reducible show wpAny _ _ (call (Value.builtin "list.__getattribute__") _ _) _ _ _);refine call_meets F.slot_list_getattribute (hT _) am_entry_list_getattribute (F.args_list_getattribute_2 _ _) (meets_getattribute_miss_list a xs k #[] "keys" _ Zx (by decide +kernel)) ⟨hx,hA,fun h' tk' e hx'=>?_⟩) | wp_step))
 obtain⟨t',u',he⟩:=hx'.there
 show wpAny _ _ (getattributeRaised _ _ _ _ _ _ _) _ _ _
 unfold getattributeRaised
 repeat (any_goals (first | assumption | wp_step))
 exact h _ _ hx'.keeps
theorem Hu:plainId "dict.update.loop"=true:=by decide +kernel
theorem Sr:entryFor table "dict.update.loop"=some Builtin.«dict.update.loop»:=entryFor_of_fast (by kernel_rfl)
variable {KT:Type} [DecidableEq KT] {knd:KeyKind prog w KT}
def But2 (d it:Addr) (h0 h:Heap):Prop:=∀ b o,b≠d->b≠it->h0.get? b=some o->h.get? b=some o
theorem A27 (hh:A.handled=none) {d it l:Addr}{items:Array Value}{prs:List (KT × Value)} (hl:prs.length=items.size) (ndi:d≠it) (nld:l≠d) (nli:l≠it) {h0:Heap} (hL:h0.IsList l items)
 (hP:∀ (i:Nat) (x:Value),items[i]?=some x->∃ (p:KT × Value) (t:Addr) (key:Value),prs[i]?=some p/\x=.ref t/\t≠d/\t≠it/\h0.IsTuple t #[key,p.2]/\knd.is p.1 key=true) {R:Result->Shared->Prop} :
 ∀ (n i:Nat) (s:Shared) (acc:List (KT × Value)),prs.length-i=n->i<=prs.length->acc.length+n<=sizeLine->s.heap.DictOf knd d acc->s.heap.IsListIter it l i->But2 d it h0 s.heap →
   (∀ h' tk,h'.DictOf knd d (merged acc (prs.drop i))->But2 d it h0 h'->R (.ok (.ret .none)) { s with heap:=h',toks:=tk }) →
   codeAny (model prog w) A (.builtin "dict.update.loop" ⟨[.ref d,.ref it,rawInt i,.none],[]⟩) R s:=by
 intro n
 induction n with
 | zero =>
   intro i s acc hn hi hz hd hit hb k
   refine codeAny_builtin Sr ?_
   rw [Around.under_plainId Hu]
   have hLs:s.heap.IsList l items:=let ⟨o,ho,r⟩:=hL;⟨o,hb _ _ nld nli ho,r⟩
   have hx:items[i]?=none:=by simp;omega
   show wpAny _ _ (pyNext (.ref it)>>=_) _ _ s
   refine wpAny_bind (wpAny_pyNext_list_end hh hit hLs hx fun h' he=>?_)
   show wpAny _ _ (Builtin.Dict.addKeywords d []>>=_) _ _ _
   refine wpAny_bind (wpAny_pure (wpAny_pure ?_))
   have e:prs.drop i=[]:=by simp;omega
   have k':=k h' s.toks (by rw [e];exact hd.extBut he ndi) fun b o n1 n2 q=>he b o n2 (hb b o n1 n2 q)
   exact k'
 | succ n ih =>
   intro i s acc hn hi hz hd hit hb k
   refine codeAny_builtin Sr ?_
   rw [Around.under_plainId Hu]
   have hLs:s.heap.IsList l items:=let ⟨o,ho,r⟩:=hL;⟨o,hb _ _ nld nli ho,r⟩
   have hlt:i<items.size:=by omega
   obtain⟨p,t,key,hp,ex,ntd,nti,hT,hkey⟩:=hP i items[i] (by simp [hlt])
   show wpAny _ _ (pyNext (.ref it)>>=_) _ _ s
   refine wpAny_bind (wpAny_pyNext_list_item hit hLs (x:=items[i]) (by simp [hlt]) fun h1 hit1 hs1=>?_)
   rw [ex]
   have hT1:h1.IsTuple t #[key,p.2]:=let ⟨o,ho,r⟩:=hT;⟨o,(hs1.2 t nti).trans (hb _ _ ntd nti ho),r⟩
   have hd1:h1.DictOf knd d acc:=hd.sameBut hs1 ndi
   obtain⟨o,ho,hc,m,hdat⟩:=hT1
   refine wpAny_bind (wpAny_holding ?_)
   refine wpAny_bind (wpAny_tryCatch ?_)
   unfold Builtin.Dict.pairItems
   refine wpAny_bind (wpAny_typeOf (show (({ s with heap:=h1 }:Shared).TypeIs (.ref t) "tuple") from ⟨o,ho,hc⟩) ?_)
   rw [if_pos (by decide)]
   refine wpAny_bind (wpAny_seqItems ho hdat (wpAny_pure ?_))
   show wpAny _ _ (holding [key,p.2] (dictSet d key p.2)) _ _ _
   refine wpAny_holding (wpAny_dictSet_pairs (s:={ s with heap:=h1 }) hkey hd1 (fun h2 hd2 hs2=>?_) (by omega))
   refine wpAny_pure ⟨plainId_quiet Hu _,?_⟩
   have e2:prs.drop i=p::prs.drop (i+1):=by
    rw [List.drop_eq_getElem_cons (by omega)]
    congr 1
    rw [List.getElem?_eq_getElem (by omega)] at hp
    exact Option.some.inj hp
   have hl2:=stored_length_le acc p.1 p.2
   refine ih (i+1) { s with heap:=h2,toks:=s.toks+1 } (stored acc p.1 p.2) (by omega) (by omega) (by omega) hd2 ?_ (fun b o' n1 n2 q=>?_) (fun h' tk hd' hb'=>k h' tk (by rw [e2];exact hd') hb')
   . obtain⟨oi,hoi,ri⟩:=hit1
     exact ⟨oi,(hs2.2 it (Ne.symm ndi)).trans hoi,ri⟩
   . exact (hs2.2 b n1).trans ((hs1.2 b n2).trans (hb b o' n1 n2 q))
end
theorem vals_pair {x y:V}{us:List Value} (r:Vals [x,y] us):∃ a b,us=[a,b]/\RelV x a/\RelV y b:=by
 cases r with
 | cons h1 r =>
   cases r with
   | cons h2 r =>
     cases r
     exact ⟨_,_,rfl,h1,h2⟩
theorem Af3 {P:Program}{w:World}{H:Hp}{h:Heap} (hok:HOk P w H h):∀ (ts:List Addr) (kvs:List (Key × V)),ts.length=kvs.length->(∀ (i:Nat) t,ts[i]?=some t->∃ kv:Key × V,kvs[i]?=some kv/\H t=some (.tup [kV kv.1,kv.2])) →
 ∃ prs:List (Key × Value),KV kvs prs/\prs.length=ts.length/\∀ (i:Nat) t,ts[i]?=some t->∃ (p:Key × Value) (key:Value),prs[i]?=some p/\h.IsTuple t #[key,p.2]/\(mixKind P w).is p.1 key=true
 | [],[],_,_=>⟨[],.nil,rfl,fun i t e=>by simp at e⟩
 | [],_::_,hl,_=>by simp at hl
 | _::_,[],hl,_=>by simp at hl
 | t::ts,kv::kvs,hl,hk=>by
   obtain⟨prs,h1,h2,h3⟩:=Af3 hok ts kvs (by simpa using hl) fun i t e=>by
    obtain⟨kv',e1,e2⟩:=hk (i+1) t (by simpa using e)
    exact ⟨kv',by simpa using e1,e2⟩
   obtain⟨kv',e1,e2⟩:=hk 0 t rfl
   have e1':kv=kv':=by simpa using e1
   subst e1'
   obtain⟨_,its,rv,o,ho,hc,hdn,n,hd⟩:=hok t _ e2
   obtain⟨a,b,rfl,ra,rb⟩:=vals_pair rv
   refine⟨(kv.1,b)::prs,.cons ⟨rfl,rb⟩ h1,by simp [h2],fun i t' e=>?_⟩
   cases i with
   | zero =>
     have:t=t':=by simpa using e
     subst this
     exact ⟨(kv.1,b),a,rfl,⟨o,ho,hc,n,hd⟩,kV_is ra⟩
   | succ i =>
     obtain⟨p,key,q1,q2,q3⟩:=h3 i t' (by simpa using e)
     exact ⟨p,key,by simpa using q1,q2,q3⟩
theorem Wa {X:Cx} (hc:X.calm=true):Hl X (.type "dict") (fun xs H Q=>∃ (p:Addr) (ts:List Addr) (kvs:List (Key × V)),xs=[.ref p]/\H p=some (.lst (ts.map V.ref))/\ts.length=kvs.length ∧
 (∀ (i:Nat) t,ts[i]?=some t->∃ kv:Key × V,kvs[i]?=some kv/\H t=some (.tup [kV kv.1,kv.2]))/\∀ D,H D=none->Q (.ref D) (upd H D (.dK (Gw [] kvs)))):=by
 intro Ab s σ H xs us Q I r h
 obtain⟨l,ts,kvs,rfl,hl,hlen,hk,q⟩:=h
 obtain⟨u,rfl,ru⟩:=Y2 r
 cases ru
 have hh:X.A.handled=none:=I.ok.hd hc
 obtain⟨hz,its,n,rv,ho⟩:=I.hok l _ hl
 rw [List.length_map] at hz
 have hil:its.length=ts.length:=by rw [←rv.length,List.length_map]
 obtain⟨prs,hkv,hpl,hP⟩:=Af3 I.hok ts kvs hlen hk
 have at_:∀ (i:Nat) (x:Value),its.toArray[i]?=some x->∃ t,ts[i]?=some t/\x=.ref t:=fun i x e=>by
  have e':its[i]?=some x:=by simpa using e
  have hlt:i<its.length:=(List.getElem?_eq_some_iff.mp e').1
  have hb:ts[i]?=some (ts[i]'(by omega)):=by simp<;>omega
  obtain⟨u,hu,ru⟩:=rv.get (i:=i) (x:=V.ref (ts[i]'(by omega))) (by rw [List.getElem?_map,hb];rfl)
  rw [e'] at hu
  cases hu
  cases ru
  exact ⟨_,hb,rfl⟩
 refine callType_codes (Q₁:=fun obj s₁=>obj=.ref s.heap.objs.size/\s₁={ s with heap:=s.heap.push { cls:=.type "dict",data:=.dict #[] } }) PySem.F.kt_called_dict (PySem.F.kt_typeCall_dict_1 _) PySem.F.entry_dict_init (kt_code_dict_new _ ⟨rfl,rfl⟩) ?_
 rintro obj s₁ ⟨rfl,rfl⟩
 have hnew:(s.heap.push { cls:=.type "dict",data:=.dict #[] }).DictOf (mixKind X.prog X.w) s.heap.objs.size []:=Heap.DictOf.new s.heap
 refine⟨hnew.typeIs,PySem.F.args_dict_init_2 _ _,?_⟩
 unfold Builtin.«dict.__init__»
 refine wpAny_bind ?_
 unfold Builtin.Dict.selfAndRest
 refine wpAny_bind (wpAny_notOrdered_dict hnew.typeIs ?_)
 show wpAny _ _ (pure (s.heap.objs.size,[Value.ref l])) _ _ _
 refine wpAny_pure ?_
 show wpAny _ _ (Builtin.Dict.updateFrom "dict.__init__" s.heap.objs.size (.ref l) [] .none) _ _ _
 unfold Builtin.Dict.updateFrom
 have ho1:(s.heap.push { cls:=.type "dict",data:=.dict #[] }).get? l=some { cls:=.type "list",data:=.seq its.toArray n }:=Heap.get?_push_of_some _ ho
 refine wpAny_bind (wpAny_typeOf (show (({ s with heap:=s.heap.push { cls:=.type "dict",data:=.dict #[] } }:Shared).TypeIs (.ref l) "list") from ⟨_,ho1,rfl⟩) ?_)
 rw [if_pos (by decide)]
 refine wpAny_bind (Uz ho1 hh fun h1 tk hk1=>?_)
 rw [if_pos (show (none:Option Value).isNone=true from rfl)]
 refine wpAny_bind (wpAny_rule ?_)
 have hl1:h1.IsList l its.toArray:=⟨_,hk1 _ _ ho1,rfl,n,rfl⟩
 refine wpAny_bind (wpAny_pyIter_list hl1 ?_)
 refine wpAny_pure ⟨plainId_quiet Hu _,?_⟩
 have lt0:l<s.heap.objs.size:=Heap.lt_size ho
 have nD:∀ b o,s.heap.get? b=some o->b≠s.heap.objs.size:=fun b o e=>Nat.ne_of_lt (Heap.lt_size e)
 have up:∀ b o,s.heap.get? b=some o->h1.get? b=some o:=fun b o e=>hk1 _ _ (Heap.get?_push_of_some _ e)
 have nI:∀ b o,s.heap.get? b=some o->b≠h1.objs.size:=fun b o e=>Nat.ne_of_lt (Heap.lt_size (up b o e))
 obtain⟨oD,esD,epD,hoD,rD⟩:=id hnew
 have hD1:h1.DictOf (mixKind X.prog X.w) s.heap.objs.size []:=⟨oD,esD,epD,hk1 _ _ hoD,rD⟩
 have ndi:s.heap.objs.size≠h1.objs.size:=Nat.ne_of_lt (Heap.lt_size (hk1 _ _ hoD))
 refine A27 (knd:=mixKind X.prog X.w) (show X.A.in1.handled=none from hh) (prs:=prs) (items:=its.toArray) (l:=l) (d:=s.heap.objs.size) (it:=h1.objs.size) (h0:=h1.push { cls:=.type "list_iterator",data:=.fields #[.ref l,.int 0 0] }) (by simp;omega) ndi (nD _ _ ho) (nI _ _ ho)
  ⟨_,Heap.get?_push_of_some _ (hk1 _ _ ho1),rfl,n,rfl⟩ (fun i x e=>?_) prs.length 0 _ [] (by omega) (by omega) ?_ (hD1.push _) ⟨_,Heap.get?_push_size _ rfl,rfl,rfl⟩ (fun b o _ _ e=>e) (fun h' tk' hd' hb'=>?_)
 . obtain⟨t,e1,rfl⟩:=at_ i x e
   obtain⟨p,key,e2,⟨o,ho',r'⟩,e4⟩:=hP i t e1
   exact ⟨p,t,key,e2,rfl,nD _ _ ho',nI _ _ ho',⟨o,Heap.get?_push_of_some _ (up _ _ ho'),r'⟩,e4⟩
 . have e0:([]:List (Key × Value)).length=0:=rfl
   omega
 . refine⟨rfl,.ref s.heap.objs.size,upd H s.heap.objs.size (.dK (Gw [] kvs)),?_,rfl,q _ (I.hok.fresh (Nat.le_refl _))⟩
   have hzz:(Gw [] kvs).length<=sizeLine:=by
    have h1:=Hz kvs []
    rw [List.length_nil] at h1
    omega
   refine I.laid (a:=s.heap.objs.size) (o:=.dK (Gw [] kvs)) (t':=tk') (fun b o e=>hb' b o (nD _ _ e) (nI _ _ e) (Heap.get?_push_of_some _ (up _ _ e))) (Nat.le_refl _) (Vy hzz (beq_eq_false_iff_ne.mpr (Ne.symm (Nat.ne_of_lt I.big))) (hkv.merge .nil) ?_)
   simpa using hd'
theorem Jx:∀ (more kvs:List (Key × V)),((kvs++more).map (·.1)).Nodup->Gw kvs more=kvs++more
 | [],kvs,_=>by simp [Gw]
 | p::more,kvs,h=>by
   have hnot:(kvs.any fun kv=>decide (kv.1=p.1))=false:=by
    rw [List.any_eq_false]
    intro kv hkv hd
    have e:kv.1=p.1:=by simpa using hd
    rw [List.map_append,List.nodup_append] at h
    exact h.2.2 kv.1 (List.mem_map_of_mem hkv) p.1 (by simp) e
   have e:putK kvs p.1 p.2=kvs++[p]:=by
    unfold putK
    rw [if_neg (by rw [hnot];decide)]
   show Gw (putK kvs p.1 p.2) more=_
   rw [e,Jx more (kvs++[p]) (by simpa using h)]
   simp
end L2
namespace L2
open PySem PySem.Spec PyProof.Rows PySem.SeqAt
end L2
namespace L2
open PySem PySem.Spec PyProof.Rows PySem.SeqAt
inductive D where
 | non | bl (b:Bool) | int (i:Int) | str (x:Str) | tup (ds:List D) | lst (ds:List D)
mutual
def Rep (K:W.Frag) (H:Hp):V->D->Prop
 | v,.non=>v=.non
 | v,.bl b=>v=.bl b
 | v,.int i=>v=.int i
 | v,.str x=>v=.str x
 | v,.tup ds=>∃ a vs,v=.ref a/\SqT K H a vs/\Reps K H vs ds
 | v,.lst ds=>∃ a vs,v=.ref a/\SqL K H a vs/\Reps K H vs ds
def Reps (K:W.Frag) (H:Hp):List V->List D->Prop
 | vs,[]=>vs=[]
 | vs,d::ds=>∃ v r,vs=v::r/\Rep K H v d/\Reps K H r ds
end
mutual
def imm:D->Bool
 | .lst _=>false
 | .tup ds=>imms ds
 | _=>true
def imms:List D->Bool
 | []=>true
 | d::ds=>imm d&&imms ds
end
mutual
def dep:D->Nat
 | .lst ds=>deps ds+1
 | .tup ds=>deps ds+1
 | _=>0
def deps:List D->Nat
 | []=>0
 | d::ds=>max (dep d) (deps ds)
end
mutual
def eqD:D->D->Bool
 | .non,.non=>true
 | .bl a,.bl b=>a==b
 | .bl a,.int b=>(if a then 1 else 0)==b
 | .int a,.bl b=>a==(if b then 1 else 0)
 | .int a,.int b=>a==b
 | .str a,.str b=>a==b
 | .tup a,.tup b=>eqDs a b
 | .lst a,.lst b=>eqDs a b
 | _,_=>false
def eqDs:List D->List D->Bool
 | [],[]=>true
 | a::r,b::q=>eqD a b&&eqDs r q
 | _,_=>false
end
mutual
theorem Dg (d:D):eqD d d=true:=by
 cases d with
 | non=>rfl
 | bl b=>simp [eqD]
 | int b=>simp [eqD]
 | str b=>simp [eqD]
 | tup ds=>simp only [eqD];exact eqDs_refl ds
 | lst ds=>simp only [eqD];exact eqDs_refl ds
theorem eqDs_refl (ds:List D):eqDs ds ds=true:=by
 cases ds with
 | nil=>rfl
 | cons d r=>simp only [eqDs,Bool.and_eq_true];exact ⟨Dg d,eqDs_refl r⟩
end
theorem eqDs_len:∀{a b:List D},eqDs a b=true->a.length=b.length
 | [],[],_=>rfl
 | [],_::_,h=>by simp [eqDs] at h
 | _::_,[],h=>by simp [eqDs] at h
 | x::a,y::b,h=>by
   simp only [eqDs,Bool.and_eq_true] at h
   rw [List.length_cons,List.length_cons,eqDs_len h.2]
theorem Yi:∀ (a b:List D),a.length=b.length->eqDs a b=(List.range a.length).all fun j=>match a[j]?,b[j]? with | some x,some y=>eqD x y | _,_=>true
 | [],[],_=>by simp [eqDs]
 | [],_::_,h=>by simp at h
 | _::_,[],h=>by simp at h
 | x::a,y::b,h=>by
   have h':a.length=b.length:=by simpa using h
   rw [List.length_cons,List.range_succ_eq_map,List.all_cons,List.all_map]
   simp only [eqDs,Yi a b h']
   congr 1
structure Ow (H H':Hp):Prop where
 tup:∀ b xs,H b=some (.tup xs)->H' b=some (.tup xs)
 frz:∀ b o u,H b=some (.frz o u)->H' b=some (.frz o u)
section
variable {K:W.Frag}{H H' H1 H2:Hp}{a l p:Addr}{xs:List V}{o:HO}
theorem Same.t (x:Same H H'):Ow H H':=⟨fun b xs h=>x b _ h,fun b o u h=>x b _ h⟩
theorem Ow.lst (h:H l=some (.lst xs)):Ow H (upd H l o):=⟨fun b ys e=>by rw [An (Hw e h (by intro z;cases z))];exact e,fun b ob u e=>by rw [An (Hw e h (by intro z;cases z))];exact e⟩
theorem Same.new (h:H l=none):Same H (upd H l o):=fun b u e=>by rw [An (A8 e h)];exact e
theorem Same.turn (x:Same H H1) (h:H l=none):Same H (upd H1 l o):=fun b u e=>by rw [An (A8 e h)];exact x b u e
theorem SqT.t (x:Ow H H') (h:SqT K H a xs):SqT K H' a xs:=by
 rcases h with (h|⟨o,h⟩) | h
 . exact .inl (.inl (x.tup _ _ h))
 . exact .inl (.inr ⟨o,x.frz _ _ _ h⟩)
 . exact .inr h
theorem Same.seqT (x:Same H H') (h:SqT K H a xs):SqT K H' a xs:=h.t x.t
mutual
theorem Rep.t (x:Ow H H') {v:V}{d:D} (hi:imm d=true) (h:Rep K H v d):Rep K H' v d:=by
 cases d with
 | non=>exact h
 | bl b=>exact h
 | int i=>exact h
 | str x=>exact h
 | tup ds =>
   obtain⟨a,vs,e,q,r⟩:=h
   exact ⟨a,vs,e,q.t x,Reps.t x (by simpa [imm] using hi) r⟩
 | lst ds=>simp [imm] at hi
theorem Reps.t (x:Ow H H') {vs:List V}{ds:List D} (hi:imms ds=true) (h:Reps K H vs ds):Reps K H' vs ds:=by
 cases ds with
 | nil=>exact h
 | cons d r =>
   obtain⟨v,q,e,h1,h2⟩:=h
   simp only [imms,Bool.and_eq_true] at hi
   exact ⟨v,q,e,Rep.t x hi.1 h1,Reps.t x hi.2 h2⟩
end
mutual
theorem Rep.same (x:Same H H') {v:V}{d:D} (h:Rep K H v d):Rep K H' v d:=by
 cases d with
 | non=>exact h
 | bl b=>exact h
 | int i=>exact h
 | str x=>exact h
 | tup ds =>
   obtain⟨a,vs,e,q,r⟩:=h
   exact ⟨a,vs,e,x.seqT q,Reps.same x r⟩
 | lst ds =>
   obtain⟨a,vs,e,q,r⟩:=h
   exact ⟨a,vs,e,x.seq q,Reps.same x r⟩
theorem Reps.same (x:Same H H') {vs:List V}{ds:List D} (h:Reps K H vs ds):Reps K H' vs ds:=by
 cases ds with
 | nil=>exact h
 | cons d r =>
   obtain⟨v,q,e,h1,h2⟩:=h
   exact ⟨v,q,e,Rep.same x h1,Reps.same x h2⟩
end
theorem Reps.length:∀{vs:List V}{ds:List D},Reps K H vs ds->vs.length=ds.length
 | vs,[],h=>by cases (show vs=[] from h);rfl
 | vs,d::ds,h=>by
   obtain⟨v,r,rfl,_,h2⟩:=h
   rw [List.length_cons,List.length_cons,Reps.length h2]
theorem Reps.get:∀{vs:List V}{ds:List D}{i:Nat}{d:D},Reps K H vs ds->ds[i]?=some d->∃ v,vs[i]?=some v/\Rep K H v d
 | vs,[],i,d,h,e=>by simp at e
 | vs,d0::ds,0,d,h,e=>by
   obtain⟨v,r,rfl,h1,_⟩:=h
   simp only [List.getElem?_cons_zero,Option.some.injEq] at e
   subst e
   exact ⟨v,by simp,h1⟩
 | vs,d0::ds,i+1,d,h,e=>by
   obtain⟨v,r,rfl,_,h2⟩:=h
   obtain⟨u,e1,e2⟩:=Reps.get (i:=i) h2 (by simpa using e)
   exact ⟨u,by simpa using e1,e2⟩
theorem Reps.getV:∀{vs:List V}{ds:List D}{i:Nat}{v:V},Reps K H vs ds->vs[i]?=some v->∃ d,ds[i]?=some d/\Rep K H v d:=fun {vs ds i v} h e=>by
 have hl:=h.length
 have hi:i<vs.length:=(List.getElem?_eq_some_iff.mp e).1
 obtain⟨d,hd⟩:∃ d,ds[i]?=some d:=⟨ds[i]'(by omega),by simp<;>omega⟩
 obtain⟨u,e1,e2⟩:=h.get hd
 rw [e] at e1
 cases e1
 exact ⟨d,hd,e2⟩
theorem Reps.append:∀{vs ws:List V}{ds es:List D},Reps K H vs ds->Reps K H ws es->Reps K H (vs++ws) (ds++es)
 | vs,ws,[],es,h,h'=>by cases (show vs=[] from h);exact h'
 | vs,ws,d::ds,es,h,h'=>by
   obtain⟨v,r,rfl,h1,h2⟩:=h
   exact ⟨v,r++ws,rfl,h1,Reps.append h2 h'⟩
theorem Reps.one {v:V}{d:D} (h:Rep K H v d):Reps K H [v] [d]:=⟨v,[],rfl,h,rfl⟩
theorem Reps.snoc {vs:List V}{ds:List D}{v:V}{d:D} (h:Reps K H vs ds) (h':Rep K H v d):Reps K H (vs++[v]) (ds++[d]):=h.append (.one h')
def nums (ns:List Int):List D:=ns.map D.int
abbrev tI (ns:List Int):D:=.tup (nums ns)
theorem a8:∀ ns:List Int,imms (nums ns)=true
 | []=>rfl
 | n::ns=>by show (imm (.int n)&&imms (nums ns))=true;rw [a8 ns];rfl
theorem A06 (ns:List Int):imm (tI ns)=true:=a8 ns
theorem Mx:∀ xs:List (List Int),imms (xs.map tI)=true
 | []=>rfl
 | x::xs=>by show (imm (tI x)&&imms (xs.map tI))=true;rw [Mx xs,A06];rfl
theorem b8:∀ a b:List Int,eqDs (nums a) (nums b)=decide (a=b)
 | [],[]=>by simp [nums,eqDs]
 | [],_::_=>by simp [nums,eqDs]
 | _::_,[]=>by simp [nums,eqDs]
 | x::a,y::b=>by
   show (eqD (.int x) (.int y)&&eqDs (nums a) (nums b))=_
   rw [b8 a b]
   simp only [eqD]
   by_cases e:x=y
   . subst e;by_cases e2:a=b<;>simp [e2]
   . simp [e]
theorem Be3 (a b:List Int):eqD (tI a) (tI b)=decide (a=b):=by simp only [eqD];exact b8 a b
theorem Fk:∀{vs:List V}{ns:List Int},Reps K H vs (nums ns)↔vs=ns.map V.int
 | vs,[]=>Iff.rfl
 | vs,n::ns=>by
   constructor
   . rintro ⟨v,r,rfl,h1,h2⟩
     have h1':v=.int n:=h1
     rw [h1',Fk.mp h2];rfl
   . rintro rfl
     exact ⟨.int n,ns.map V.int,rfl,rfl,Fk.mpr rfl⟩
end
section
variable {X:Cx}{Ab:List (Addr × Obj)}{σ:St}{H:Hp}{s:Shared}
theorem Ay0 (I:Inv X Ab σ H s) {a:Addr}{xs ys:List V} (h:SqT X.K H a xs) (h':SqL X.K H a ys):False:=by
 obtain⟨its,r,⟨o,e,c,n,d⟩,_⟩:=I.tuple h
 obtain⟨its',r',⟨o',n',e',c',_,d'⟩,_⟩:=I.list h'
 rw [e] at e';cases e'
 rw [c] at c'
 have z:("tuple":String)="list":=by injection c'
 exact absurd z (by decide)
mutual
theorem Rep.inj (I:Inv X Ab σ H s) {v:V}{d e:D} (h:Rep X.K H v d) (h':Rep X.K H v e):d=e:=by
 cases d with
 | non=>cases (show v=.non from h);cases e<;>first | rfl | (exfalso;first | (cases (show V.non=_ from h')) | (obtain⟨_,_,z,_⟩:=h';cases z))
 | bl b=>cases (show v=.bl b from h);cases e<;>first | (cases (show V.bl b=_ from h');rfl) | (exfalso;first | (cases (show V.bl b=_ from h')) | (obtain⟨_,_,z,_⟩:=h';cases z))
 | int b=>cases (show v=.int b from h);cases e<;>first | (cases (show V.int b=_ from h');rfl) | (exfalso;first | (cases (show V.int b=_ from h')) | (obtain⟨_,_,z,_⟩:=h';cases z))
 | str b=>cases (show v=.str b from h);cases e<;>first | (cases (show V.str b=_ from h');rfl) | (exfalso;first | (cases (show V.str b=_ from h')) | (obtain⟨_,_,z,_⟩:=h';cases z))
 | tup ds =>
   obtain⟨a,vs,rfl,q,r⟩:=h
   cases e with
   | tup es =>
     obtain⟨b,ws,z,q',r'⟩:=h'
     cases z
     have e1:=I.tuple_inj q q'
     subst e1
     rw [Reps.inj I r r']
   | lst es =>
     obtain⟨b,ws,z,q',r'⟩:=h'
     cases z
     exact (Ay0 I q q').elim
   | non=>cases (show V.ref a=_ from h')
   | bl _=>cases (show V.ref a=_ from h')
   | int _=>cases (show V.ref a=_ from h')
   | str _=>cases (show V.ref a=_ from h')
 | lst ds =>
   obtain⟨a,vs,rfl,q,r⟩:=h
   cases e with
   | lst es =>
     obtain⟨b,ws,z,q',r'⟩:=h'
     cases z
     have e1:=I.list_inj q q'
     subst e1
     rw [Reps.inj I r r']
   | tup es =>
     obtain⟨b,ws,z,q',r'⟩:=h'
     cases z
     exact (Ay0 I q' q).elim
   | non=>cases (show V.ref a=_ from h')
   | bl _=>cases (show V.ref a=_ from h')
   | int _=>cases (show V.ref a=_ from h')
   | str _=>cases (show V.ref a=_ from h')
theorem Reps.inj (I:Inv X Ab σ H s) {vs:List V}{ds es:List D} (h:Reps X.K H vs ds) (h':Reps X.K H vs es):ds=es:=by
 cases ds with
 | nil =>
   cases (show vs=[] from h)
   cases es with
   | nil=>rfl
   | cons e es=>obtain⟨_,_,z,_⟩:=h';cases z
 | cons d ds =>
   obtain⟨v,r,rfl,h1,h2⟩:=h
   cases es with
   | nil=>cases (show v::r=[] from h')
   | cons e es =>
     obtain⟨v',r',z,h1',h2'⟩:=h'
     cases z
     rw [Rep.inj I h1 h1',Reps.inj I h2 h2']
end
def EqD (X:Cx) (H:Hp) (s:Shared) (d:D):Prop:=∀ (A:Around) (x y:V) (u v:Value) (e:D),A.units+dep d<cLine->Rep X.K H x d->Rep X.K H y e->RelV x u->RelV y v->RcAt A s u v (eqD d e)/\EqAt A s u v (eqD d e)
theorem Bc8 (I:Inv X Ab σ H s) {ds es:List D}{vs ws:List V}{us us':List Value}{A:Around} (hu:A.units+deps ds<cLine) (r:Reps X.K H vs ds) (r':Reps X.K H ws es) (rv:Vals vs us) (rv':Vals ws us')
 (ih:∀ d∈ds,EqD X H s d) (hdm:∀ d∈ds,dep d<=deps ds):∀ j (h1:j<us.toArray.size) (h2:j<us'.toArray.size),EqAt A s us.toArray[j] us'.toArray[j] (match ds[j]?,es[j]? with | some x,some y=>eqD x y | _,_=>true):=by
 intro j h1 h2
 have l1:=r.length
 have l2:=r'.length
 have l3:=rv.length
 have l4:=rv'.length
 have h1':j<us.length:=by simpa using h1
 have h2':j<us'.length:=by simpa using h2
 have e1:ds[j]?=some (ds[j]'(by omega)):=by simp<;>omega
 have e2:es[j]?=some (es[j]'(by omega)):=by simp<;>omega
 obtain⟨v,ev,rd⟩:=r.get e1
 obtain⟨w,ew,re⟩:=r'.get e2
 obtain⟨u,eu,ru⟩:=rv.get ev
 obtain⟨u',eu',ru'⟩:=rv'.get ew
 have f1:us.toArray[j]=u:=by
  have:us[j]?=some us[j]:=by simp
  rw [eu] at this
  have:=(Option.some.inj this).symm
  simpa using this
 have f2:us'.toArray[j]=u':=by
  have:us'[j]?=some us'[j]:=by simp
  rw [eu'] at this
  have:=(Option.some.inj this).symm
  simpa using this
 rw [f1,f2,e1,e2]
 have hm:ds[j]'(by omega)∈ds:=List.getElem_mem _
 exact (ih _ hm A v w u u' _ (by have:=hdm _ hm;omega) rd re ru ru').2
theorem Yk:∀{ds:List D}{d:D},d∈ds->dep d<=deps ds
 | d0::ds,d,h=>by
   simp only [deps]
   rcases List.mem_cons.mp h with rfl | h
   . omega
   . have:=Yk h;omega
theorem Ze {a b:List D} (h:¬a.length=b.length):eqDs a b=false:=by
 cases q:eqDs a b with
 | false=>rfl
 | true=>exact absurd (eqDs_len q) h
mutual
theorem A23 (I:Inv X Ab σ H s) (d:D):EqD X H s d:=by
 intro A x y u v e hu hx hy rx ry
 cases d with
 | non =>
   cases (show x=.non from hx)
   cases (show u=Value.none from rx)
   cases e with
   | non=>cases (show y=.non from hy);cases (show v=Value.none from ry);exact ⟨.none_none,.same _⟩
   | bl b=>cases (show y=.bl b from hy);cases (show v=Value.bool b from ry);exact ⟨.none_bool b,.none_bool b⟩
   | int i=>cases (show y=.int i from hy);obtain⟨t,rfl⟩:=ry;exact ⟨.none_int i t,.none_int i t⟩
   | str z=>cases (show y=.str z from hy);obtain⟨t,rfl⟩:=ry;exact ⟨.none_str z t,.none_str z t⟩
   | tup es=>obtain⟨a,vs,rfl,q,r⟩:=hy;cases ry;obtain⟨its,_,p,_⟩:=I.tuple q;exact ⟨.none_tuple p (by omega),.none_tuple p (by omega)⟩
   | lst es=>obtain⟨a,vs,rfl,q,r⟩:=hy;cases ry;obtain⟨its,_,p,_⟩:=I.list q;exact ⟨.none_list p.isList (by omega),.none_list p.isList (by omega)⟩
 | bl c =>
   cases (show x=.bl c from hx)
   cases (show u=Value.bool c from rx)
   cases e with
   | non=>cases (show y=.non from hy);cases (show v=Value.none from ry);exact ⟨.bool_none c,.bool_none c⟩
   | bl b=>cases (show y=.bl b from hy);cases (show v=Value.bool b from ry);exact ⟨.bool_bool c b,.bool_bool c b⟩
   | int i=>cases (show y=.int i from hy);obtain⟨t,rfl⟩:=ry;exact ⟨.bool_int c i t,.bool_int c i t⟩
   | str z=>cases (show y=.str z from hy);obtain⟨t,rfl⟩:=ry;exact ⟨.bool_str c z t,.bool_str c z t⟩
   | tup es=>obtain⟨a,vs,rfl,q,r⟩:=hy;cases ry;obtain⟨its,_,p,_⟩:=I.tuple q;exact ⟨.bool_tuple c p (by omega),.bool_tuple c p (by omega)⟩
   | lst es=>obtain⟨a,vs,rfl,q,r⟩:=hy;cases ry;obtain⟨its,_,p,_⟩:=I.list q;exact ⟨.bool_list c p.isList (by omega),.bool_list c p.isList (by omega)⟩
 | int c =>
   cases (show x=.int c from hx)
   obtain⟨t,rfl⟩:=rx
   cases e with
   | non=>cases (show y=.non from hy);cases (show v=Value.none from ry);exact ⟨.int_none c t,.int_none c t⟩
   | bl b=>cases (show y=.bl b from hy);cases (show v=Value.bool b from ry);exact ⟨.int_bool c t b,.int_bool c t b⟩
   | int i=>cases (show y=.int i from hy);obtain⟨t',rfl⟩:=ry;exact ⟨.int_int c t i t',.int_int c t i t'⟩
   | str z=>cases (show y=.str z from hy);obtain⟨t',rfl⟩:=ry;exact ⟨.int_str c t z t',.int_str c t z t'⟩
   | tup es=>obtain⟨a,vs,rfl,q,r⟩:=hy;cases ry;obtain⟨its,_,p,_⟩:=I.tuple q;exact ⟨.int_tuple c t p (by omega),.int_tuple c t p (by omega)⟩
   | lst es=>obtain⟨a,vs,rfl,q,r⟩:=hy;cases ry;obtain⟨its,_,p,_⟩:=I.list q;exact ⟨.int_list c t p.isList (by omega),.int_list c t p.isList (by omega)⟩
 | str c =>
   cases (show x=.str c from hx)
   obtain⟨t,rfl⟩:=rx
   cases e with
   | non=>cases (show y=.non from hy);cases (show v=Value.none from ry);exact ⟨.str_none c t,.str_none c t⟩
   | bl b=>cases (show y=.bl b from hy);cases (show v=Value.bool b from ry);exact ⟨.str_bool c t b,.str_bool c t b⟩
   | int i=>cases (show y=.int i from hy);obtain⟨t',rfl⟩:=ry;exact ⟨.str_int c t i t',.str_int c t i t'⟩
   | str z=>cases (show y=.str z from hy);obtain⟨t',rfl⟩:=ry;exact ⟨.str_str c t z t',.str_str c t z t'⟩
   | tup es=>obtain⟨a,vs,rfl,q,r⟩:=hy;cases ry;obtain⟨its,_,p,_⟩:=I.tuple q;exact ⟨.str_tuple c t p (by omega),.str_tuple c t p (by omega)⟩
   | lst es=>obtain⟨a,vs,rfl,q,r⟩:=hy;cases ry;obtain⟨its,_,p,_⟩:=I.list q;exact ⟨.str_list c t p.isList (by omega),.str_list c t p.isList (by omega)⟩
 | tup ds =>
   have hx':=hx
   obtain⟨a,vs,rfl,q,r⟩:=hx
   cases rx
   obtain⟨its,rv,p,_⟩:=I.tuple q
   have hu':A.units+1+deps ds<cLine:=by simp only [dep] at hu;omega
   cases e with
   | non=>cases (show y=.non from hy);cases (show v=Value.none from ry);exact ⟨.tuple_none p (by omega),.tuple_none p (by omega)⟩
   | bl b=>cases (show y=.bl b from hy);cases (show v=Value.bool b from ry);exact ⟨.tuple_bool b p (by omega),.tuple_bool b p (by omega)⟩
   | int i=>cases (show y=.int i from hy);obtain⟨t',rfl⟩:=ry;exact ⟨.tuple_int i t' p (by omega),.tuple_int i t' p (by omega)⟩
   | str z=>cases (show y=.str z from hy);obtain⟨t',rfl⟩:=ry;exact ⟨.tuple_str z t' p (by omega),.tuple_str z t' p (by omega)⟩
   | lst es=>obtain⟨b,ws,rfl,q',r'⟩:=hy;cases ry;obtain⟨its',_,p',_⟩:=I.list q';exact ⟨.tuple_list p p'.isList (by omega),.tuple_list p p'.isList (by omega)⟩
   | tup es =>
     have hy':=hy
     obtain⟨b,ws,rfl,q',r'⟩:=hy
     cases ry
     obtain⟨its',rv',p',_⟩:=I.tuple q'
     have main:RcAt A s (.ref a) (.ref b) (eqD (.tup ds) (.tup es)):=by
      have:=RcAt.tuples (A:=A) p p' (by omega) (Bc8 I (A:=A.in1) (by show A.units+1+deps ds<cLine;omega) r r' rv rv' (eqDs_ok I ds) fun d h=>Yk h)
      have l1:=r.length
      have l2:=r'.length
      have l3:=rv.length
      have l4:=rv'.length
      have e1:its.toArray.size=ds.length:=by simp<;>omega
      have e2:its'.toArray.size=es.length:=by simp<;>omega
      rw [e1,e2] at this
      simp only [eqD]
      by_cases hl:ds.length=es.length
      . rw [Yi ds es hl]
        rw [←hl,Nat.min_self] at this
        simpa using this
      . rw [Ze hl]
        have z:(ds.length==es.length)=false:=by simpa using hl
        rw [z,Bool.and_false] at this
        exact this
     refine⟨main,?_⟩
     by_cases hab:a=b
     . subst hab
       have e3:D.tup ds=D.tup es:=Rep.inj I hx' hy'
       rw [e3,Dg]
       exact .same _
     . exact .of_refs hab main
 | lst ds =>
   have hx':=hx
   obtain⟨a,vs,rfl,q,r⟩:=hx
   cases rx
   obtain⟨its,rv,p,_⟩:=I.list q
   have hu':A.units+1+deps ds<cLine:=by simp only [dep] at hu;omega
   cases e with
   | non=>cases (show y=.non from hy);cases (show v=Value.none from ry);exact ⟨.list_none p.isList (by omega),.list_none p.isList (by omega)⟩
   | bl b=>cases (show y=.bl b from hy);cases (show v=Value.bool b from ry);exact ⟨.list_bool b p.isList (by omega),.list_bool b p.isList (by omega)⟩
   | int i=>cases (show y=.int i from hy);obtain⟨t',rfl⟩:=ry;exact ⟨.list_int i t' p.isList (by omega),.list_int i t' p.isList (by omega)⟩
   | str z=>cases (show y=.str z from hy);obtain⟨t',rfl⟩:=ry;exact ⟨.list_str z t' p.isList (by omega),.list_str z t' p.isList (by omega)⟩
   | tup es=>obtain⟨b,ws,rfl,q',r'⟩:=hy;cases ry;obtain⟨its',_,p',_⟩:=I.tuple q';exact ⟨.list_tuple p.isList p' (by omega),.list_tuple p.isList p' (by omega)⟩
   | lst es =>
     have hy':=hy
     obtain⟨b,ws,rfl,q',r'⟩:=hy
     cases ry
     obtain⟨its',rv',p',_⟩:=I.list q'
     have main:RcAt A s (.ref a) (.ref b) (eqD (.lst ds) (.lst es)):=by
      have l1:=r.length
      have l2:=r'.length
      have l3:=rv.length
      have l4:=rv'.length
      have e1:its.toArray.size=ds.length:=by simp<;>omega
      have e2:its'.toArray.size=es.length:=by simp<;>omega
      simp only [eqD]
      by_cases hl:ds.length=es.length
      . have:=RcAt.lists (A:=A) p.isList p'.isList (by omega) (by omega) (Bc8 I (A:=A.in1) (by show A.units+1+deps ds<cLine;omega) r r' rv rv' (eqDs_ok I ds) fun d h=>Yk h)
        rw [e1] at this
        rw [Yi ds es hl]
        exact this
      . rw [Ze hl]
        exact RcAt.lists_lengths p.isList p'.isList (by simpa [e1,e2] using hl) (by omega)
     refine⟨main,?_⟩
     by_cases hab:a=b
     . subst hab
       have e3:D.lst ds=D.lst es:=Rep.inj I hx' hy'
       rw [e3,Dg]
       exact .same _
     . exact .of_refs hab main
theorem eqDs_ok (I:Inv X Ab σ H s) (ds:List D):∀ d∈ds,EqD X H s d:=by
 cases ds with
 | nil=>exact fun _ h=>nomatch h
 | cons d0 r =>
   intro d h
   rcases List.mem_cons.mp h with e | h
   . exact e▸A23 I d0
   . exact eqDs_ok I r d h
end
def rEqD (K:W.Frag) (n:Nat):R2:=fun x y H Q=>∃ d e,Rep K H x d/\Rep K H y e/\dep d<=n/\Q (.bl (eqD d e)) H
theorem Bq7 {n:Nat} (hu:X.A.units+n<cLine):OpR X (compareOp .Eq) (rEqD X.K n):=by
 intro Ab s σ H x y v u Q I rx ry h
 obtain⟨d,e,hd,he,hn,q⟩:=h
 exact (A23 I d X.A x y v u e (by omega) hd he rx ry).1 X.prog X.w X.xe _ ⟨.bl (eqD d e),H,I,rfl,q⟩
end
end L2
namespace L2
open PySem PySem.Spec PyProof.Rows PySem.SeqAt
section
variable {X:Cx}
def eqF (X:Cx) (H:Hp) (d:D) (u:Value):Bool:=@decide (∃ v e,RelV v u/\Rep X.K H v e/\eqD e d=true) (Classical.propDecidable _)
theorem A22 {Ab:List (Addr × Obj)}{σ:St}{H:Hp}{s:Shared} (I:Inv X Ab σ H s) {d e:D}{v:V}{u:Value} (r:RelV v u) (h:Rep X.K H v e):eqF X H d u=eqD e d:=by
 cases q:eqD e d with
 | true=>exact @decide_eq_true _ (Classical.propDecidable _) ⟨v,e,r,h,q⟩
 | false =>
   refine @decide_eq_false _ (Classical.propDecidable _) ?_
   rintro ⟨v',e',r',h',q'⟩
   have:=r.inj r'
   subst this
   rw [Rep.inj I h h'] at q
   rw [q] at q'
   cases q'
theorem b7 {Ab:List (Addr × Obj)}{σ:St}{H:Hp}{s:Shared} (I:Inv X Ab σ H s) {A:Around}{x:V}{v:Value}{d:D}{vs:List V}{us:List Value}{ds:List D} (hu:A.units+deps ds<cLine) (hx:Rep X.K H x d) (rx:RelV x v)
 (r:Reps X.K H vs ds) (rv:Vals vs us):∀ y,y∈us.toArray->EqAt A s y v (eqF X H d y):=by
 intro y hy
 have hy':y∈us:=by simpa using hy
 obtain⟨i,hi⟩:=List.getElem?_of_mem hy'
 have hlt:i<us.length:=(List.getElem?_eq_some_iff.mp hi).1
 have l1:=rv.length
 obtain⟨w,hw⟩:∃ w,vs[i]?=some w:=⟨vs[i]'(by omega),by simp<;>omega⟩
 obtain⟨u,hu2,ru⟩:=rv.get hw
 rw [hi] at hu2
 cases hu2
 obtain⟨e,he,re⟩:=r.getV hw
 rw [A22 I ru re]
 have hm:e∈ds:=List.mem_of_getElem? he
 exact (A23 I e A w x y v d (by have:=Yk hm;omega) re hx ru rx).2
theorem Ad6 {Ab:List (Addr × Obj)}{σ:St}{H:Hp}{s:Shared} (I:Inv X Ab σ H s) {d:D}:∀{vs:List V}{us:List Value}{ds:List D},Reps X.K H vs ds->Vals vs us->us.any (eqF X H d)=ds.any fun e=>eqD e d
 | vs,us,[],r,rv=>by
   cases (show vs=[] from r)
   cases rv
   rfl
 | vs,us,e::ds,r,rv=>by
   obtain⟨v,q,rfl,h1,h2⟩:=r
   cases rv with
   | cons r1 r2=>rw [List.any_cons,List.any_cons,A22 I r1 h1,Ad6 I h2 r2]
def SeqD (K:W.Frag) (H:Hp) (y:V) (ds:List D):Prop:=Rep K H y (.lst ds)\/Rep K H y (.tup ds)
def rInD (K:W.Frag) (n:Nat) (neg:Bool):R2:=fun x y H Q=>∃ d ds,Rep K H x d/\SeqD K H y ds/\deps ds+1<=n/\Q (.bl (if neg then !(ds.any fun e=>eqD e d) else ds.any fun e=>eqD e d)) H
theorem Bq6 {n:Nat} (hu:X.A.units+n<cLine):OpR X (compareOp .In) (rInD X.K n false):=by
 intro Ab s σ H x y v u Q I rx ry h
 obtain⟨d,ds,hx,hs,hn,q⟩:=h
 have fin:∀{us:List Value}{vs:List V},Reps X.K H vs ds->Vals vs us->EP X Ab σ Q (.bool (us.toArray.any (eqF X H d))) s:=fun r rv =>
  ⟨.bl (ds.any fun e=>eqD e d),H,I,by show Value.bool _=Value.bool _;rw [List.any_toArray,Ad6 I r rv],q⟩
 rcases hs with ⟨a,vs,rfl,hq,r⟩|⟨a,vs,rfl,hq,r⟩
 . cases ry
   obtain⟨its,rv,p,_⟩:=I.list hq
   exact in_listAt (eqF X H d) p.isList (b7 I (A:=X.A.in1) (by show X.A.units+1+deps ds<cLine;omega) hx rx r rv) (fin r rv)
 . cases ry
   obtain⟨its,rv,p,_⟩:=I.tuple hq
   exact in_tupleAt (eqF X H d) p (b7 I (A:=X.A.in1) (by show X.A.units+1+deps ds<cLine;omega) hx rx r rv) (fin r rv)
theorem Aw0 {n:Nat} (hu:X.A.units+n<cLine):OpR X (compareOp .NotIn) (rInD X.K n true):=by
 intro Ab s σ H x y v u Q I rx ry h
 obtain⟨d,ds,hx,hs,hn,q⟩:=h
 have fin:∀{us:List Value}{vs:List V},Reps X.K H vs ds->Vals vs us->EP X Ab σ Q (.bool (!us.toArray.any (eqF X H d))) s:=fun r rv =>
  ⟨.bl (!(ds.any fun e=>eqD e d)),H,I,by show Value.bool _=Value.bool _;rw [List.any_toArray,Ad6 I r rv],q⟩
 rcases hs with ⟨a,vs,rfl,hq,r⟩|⟨a,vs,rfl,hq,r⟩
 . cases ry
   obtain⟨its,rv,p,_⟩:=I.list hq
   exact notIn_listAt (eqF X H d) p.isList (b7 I (A:=X.A.in1) (by show X.A.units+1+deps ds<cLine;omega) hx rx r rv) (fin r rv)
 . cases ry
   obtain⟨its,rv,p,_⟩:=I.tuple hq
   exact notIn_tupleAt (eqF X H d) p (b7 I (A:=X.A.in1) (by show X.A.units+1+deps ds<cLine;omega) hx rx r rv) (fin r rv)
def Bc9 (K:W.Frag) (n:Nat):V->List V->Hp->VK->Prop:=fun x vs H Q=>∃ ds y d j,vs=[y]/\Rep K H x (.lst ds)/\Rep K H y d/\deps ds+1<=n/\ds.findIdx? (fun e=>eqD e d)=some j/\Q (.int (j:Nat)) H
theorem Ba7 {n:Nat} (hu:X.A.units+n<cLine):MtR X "list.index" (Bc9 X.K n):=by
 intro Ab s σ H x vs v us Q I rx rv h
 obtain⟨ds,y,d,j,rfl,⟨a,ws,rfl,hq,r⟩,hy,hn,hj,q⟩:=h
 cases rx
 obtain⟨u,rfl,ru⟩:=rv.one
 obtain⟨its,rw',p,hz⟩:=I.list hq
 have l1:=r.length
 have l2:=rw'.length
 obtain⟨hlt,hit,hno⟩:=List.findIdx?_eq_some_iff_getElem.mp hj
 have at':∀ m (hm:m<its.toArray.size) (hm':m<ds.length),eqF X H d its.toArray[m]=eqD ds[m] d:=fun m hm hm'=>by
  obtain⟨w,hw,re⟩:=r.get (i:=m) (d:=ds[m]) (by simp)
  obtain⟨u',hu',ru'⟩:=rw'.get hw
  have e1:its.toArray[m]=u':=by
   have hm2:m<its.length:=by simpa using hm
   have:its[m]?=some its[m]:=by simp
   rw [hu'] at this
   have:=(Option.some.inj this).symm
   simpa using this
  rw [e1]
  exact A22 I ru' re
 obtain⟨o,k,ho,hc,hdn,hd⟩:=id p
 obtain⟨cls,dd,data,sl⟩:=o
 simp only at hc hdn hd
 subst hc hdn hd
 have hsz:ds.length<=sizeLine:=by omega
 have big:(sizeLine:Nat)<2 ^ 62:=by rw [sizeLine_eq];decide
 refine call_meets PySem.F.slot_list_index ⟨_,ho,rfl⟩ PySem.F.entry_list_index (PySem.F.args_list_index_2 _ _)
  (list_indexAt a its.toArray k none sl u (eqF X H d) j (by simp<;>omega) (by omega) ?_ ?_) ⟨ho,b7 I (A:=X.A.in1) (by show X.A.units+1+deps ds<cLine;omega) hy ru r rw',?_⟩
 . rw [at' j (by simp<;>omega) hlt];exact hit
 . intro m hm hmj
   rw [at' m hm (by omega)]
   have:=hno m hmj
   simpa using this
 . exact ⟨.int (j:Nat),H,I.tok _,⟨_,rfl⟩,q⟩
def isD (n:String):D->Bool
 | .non=>false
 | .bl _=>n=="int" || n=="bool"
 | .int _=>n=="int"
 | .str _=>n=="str"
 | .tup _=>n=="tuple"
 | .lst _=>n=="list"
def tyD:D->String
 | .non=>"NoneType"
 | .bl _=>"bool"
 | .int _=>"int"
 | .str _=>"str"
 | .tup _=>"tuple"
 | .lst _=>"list"
theorem Be1 {K:W.Frag}{n:String}{d:D} (hn:n="int"\/n="bool"\/n="str"\/n="tuple"\/n="list"\/n="dict"):PySem.W.kitOne K (.type (tyD d)) (.type n)=some (isD n d):=by
 rcases hn with rfl | rfl | rfl | rfl | rfl | rfl<;>cases d<;>(unfold PySem.W.kitOne PySem.W.kitCls PySem.W.subIn tyD isD;first | rfl | decide +kernel)
theorem Ti:Hl X (.builtin "isinstance") (fun xs H Q=>∃ x n d,xs=[x,.ty n]/\(n="int"\/n="bool"\/n="str"\/n="tuple"\/n="list"\/n="dict")/\Rep X.K H x d/\Q (.bl (isD n d)) H):=by
 intro Ab s σ H xs us Q I r h
 obtain⟨x,n,d,rfl,hn,hx,q⟩:=h
 obtain⟨u,v,rfl,rx,rt⟩:=Ah6 r
 cases rt
 have k:=Be1 (K:=X.K) (d:=d) hn
 have fin:∀ tk,EP X Ab σ Q (.bool (isD n d)) { s with toks:=tk }:=fun tk=>⟨.bl (isD n d),H,I.tok tk,rfl,q⟩
 cases d with
 | non=>cases (show x=.non from hx);cases (show u=Value.none from rx);exact PySem.W.kia_one PySem.W.kitx_none I.kIn True.intro k (fun z=>nomatch z) fin
 | bl b=>cases (show x=.bl b from hx);cases (show u=Value.bool b from rx);exact PySem.W.kia_one PySem.W.kitx_bool I.kIn True.intro k (fun z=>nomatch z) fin
 | int b=>cases (show x=.int b from hx);obtain⟨t,rfl⟩:=rx;exact PySem.W.kia_one PySem.W.kitx_int I.kIn True.intro k (fun z=>nomatch z) fin
 | str b=>cases (show x=.str b from hx);obtain⟨t,rfl⟩:=rx;exact PySem.W.kia_one PySem.W.kitx_str I.kIn True.intro k (fun z=>nomatch z) fin
 | tup ds =>
   obtain⟨a,vs,rfl,hq,_⟩:=hx
   cases rx
   obtain⟨its,_,⟨o,e,c,_⟩,_⟩:=I.tuple hq
   exact PySem.W.kia_one PySem.W.kitx_tuple I.kIn ⟨o,e,c⟩ k (fun z=>nomatch z) fin
 | lst ds =>
   obtain⟨a,vs,rfl,hq,_⟩:=hx
   cases rx
   obtain⟨its,_,⟨o,_,e,c,_⟩,_⟩:=I.list hq
   exact PySem.W.kia_one PySem.W.kitx_list I.kIn ⟨o,e,c⟩ k (fun z=>nomatch z) fin
def Bp5 (K:W.Frag):R2:=fun x y H Q=>∃ a b xs ys,x=.ref a/\y=.ref b/\SqT K H a xs/\SqT K H b ys/\xs.length+ys.length<=sizeLine/\∀ p H',Same H H'->SqT K H' p (xs++ys)->Q (.ref p) H'
theorem Bi7:OpR X (binaryOp .Add) (Bp5 X.K):=by
 intro Ab s σ H x y v u Q I rx ry h
 obtain⟨a,b,xs,ys,rfl,rfl,ha,hb,hz,q⟩:=h
 by_cases hx:xs=[]
 . subst hx
   cases rx
   cases ry
   obtain⟨its,r1,p1,_⟩:=I.tuple ha
   obtain⟨its2,r2,p2,_⟩:=I.tuple hb
   cases r1
   obtain⟨⟨cls,dd,data,sl⟩,ho,hc,n,hd⟩:=id p1
   obtain⟨⟨cls2,dd2,data2,sl2⟩,ho2,hc2,n2,hd2⟩:=id p2
   simp only at hc hd hc2 hd2
   subst hc hd hc2 hd2
   exact concat_meets ⟨_,ho,rfl⟩ ⟨_,ho2,rfl⟩ noFill_tuple_add seq_tuple_add PySem.F.slot_tuple_add PySem.F.entry_tuple_add (PySem.F.args_tuple_add_2 _ _)
    (tuple_addW0 a b _ _ n n2 dd dd2 sl sl2 (by simp)) ⟨ho,ho2,⟨.ref b,H,I,rfl,q b H (Same.refl H) (by simpa using hb)⟩⟩
 . refine Bi8 Ab s σ H (.ref a) (.ref b) v u Q I rx ry ⟨a,b,xs,ys,rfl,rfl,ha,hb,hx,hz,fun e=>?_,fun e p hp=>?_⟩
   . subst e;exact q a H (Same.refl H) (by simpa using ha)
   . exact q p _ (Same.new hp) (.of Ae)
def Bp4 (K:W.Frag):V->Option Int->Option Int->Hp->VK->Prop:=fun x lo hi H Q=>∃ a xs,x=.ref a/\SqT K H a xs ∧
 ¬(HT.sIx xs.length 0 lo=0/\HT.sIx xs.length xs.length hi=xs.length)/\∀ p H',Same H H'->SqT K H' p (cutV xs lo hi)->Q (.ref p) H'
theorem Bf9:SlR X (Bp4 X.K):=by
 intro Ab s σ H x v vl vu lo hi sl Q I rx hs pl pu h
 obtain⟨a,xs,rfl,hx,hw,q⟩:=h
 exact Bo9 Ab s σ H (.ref a) v vl vu lo hi sl Q I rx hs pl pu ⟨a,xs,rfl,hx,hw,fun p hp=>q p _ (Same.new hp) (.of Ae)⟩
def Bd0 (K:W.Frag):R2:=fun x y H Q=>∃ l b xs zs,x=.ref l/\y=.ref b/\SqL K H l xs/\SqL K H b zs/\xs.length+zs.length<=sizeLine/\∀ p,H p=none->Q (.ref p) (upd H p (.lst (xs++zs)))
theorem Ba2:OpR X (binaryOp .Add) (Bd0 X.K):=by
 intro Ab s σ H x y v u Q I rx ry h
 obtain⟨l,b,xs,zs,rfl,rfl,hl,hb,hz,q⟩:=h
 cases rx
 cases ry
 obtain⟨its,r1,p1,_⟩:=I.list hl
 obtain⟨its2,r2,p2,_⟩:=I.list hb
 obtain⟨⟨cls,dd,data,sl⟩,n,ho,hc,hdd,hd⟩:=id p1
 obtain⟨⟨cls2,dd2,data2,sl2⟩,n2,ho2,hc2,hdd2,hd2⟩:=id p2
 simp only at hc hd hc2 hd2
 subst hc hd hc2 hd2
 refine concat_meets ⟨_,ho,rfl⟩ ⟨_,ho2,rfl⟩ noFill_list_add seq_list_add PySem.F.slot_list_add PySem.F.entry_list_add (PySem.F.args_list_add_2 _ _)
  (list_addW l b its.toArray its2.toArray n n2 dd dd2 sl sl2 (by rw [List.size_toArray,List.size_toArray,←r1.length,←r2.length];exact hz)) ⟨ho,ho2,?_⟩
 rw [show its.toArray++its2.toArray=(its++its2).toArray by simp]
 exact ⟨.ref s.heap.objs.size,_,I.lnew (t':=s.toks) (r1.append r2) (by rw [List.length_append];exact hz),rfl,q _ I.fresh⟩
theorem A55 (hc:X.calm=true):Hl X (.builtin "all") (fun xs H Q=>∃ (p:Addr) (bs:List Bool),xs=[.ref p]/\SqL X.K H p (bs.map V.bl)/\Q (.bl (bs.all id)) H):=by
 intro Ab s σ H xs us Q I r h
 obtain⟨p,bs,rfl,hq,q⟩:=h
 obtain⟨u,rfl,ru⟩:=Y2 r
 cases ru
 obtain⟨its,rv,pl,hz⟩:=I.list hq
 have hh:X.A.handled=none:=I.ok.hd hc
 have rel:∀ (i:Nat) (v:Value),its.toArray[i]?=some v->∃ b,bs[i]?=some b/\v=.bool b:=fun i v e=>by
  have e':its[i]?=some v:=by simpa using e
  have hlt:i<its.length:=(List.getElem?_eq_some_iff.mp e').1
  have l1:=rv.length
  rw [List.length_map] at l1
  have hb:bs[i]?=some (bs[i]'(by omega)):=by simp<;>omega
  obtain⟨u,hu,ru⟩:=rv.get (i:=i) (x:=V.bl (bs[i]'(by omega))) (by rw [List.getElem?_map,hb];rfl)
  rw [e'] at hu
  cases hu
  exact ⟨_,hb,ru⟩
 refine call_all_walk (wpAny_pyIter_list pl.isList ?_)
 refine⟨s.heap.objs.size,[s.heap.objs.size,p],[s.heap.objs.size],its.toArray.size,_,_,fun i=>(bs[i]?).getD true,rfl,Walks.list (show X.A.in1.handled=none from hh) s.heap.objs.size p ?_ its.toArray,⟨⟨_,Heap.get?_push_size _ rfl,rfl,rfl⟩,?_⟩,?_,fun h' tk k=>?_⟩
 . obtain⟨o,_,ho,_⟩:=pl
   exact Nat.ne_of_lt (Heap.lt_size ho)
 . exact pl.isList.at fun o e=>Heap.get?_push_of_some _ e
 . intro i v s' Q' E' hv hQ
   obtain⟨b,hb,rfl⟩:=rel i v hv
   dsimp only at hQ
   rw [hb] at hQ
   exact wpAny_truthy_bool hQ
 . have e:(List.range its.toArray.size).all (fun i=>(bs[i]?).getD true)=bs.all id:=by
    have l1:=rv.length
    rw [List.length_map] at l1
    rw [List.size_toArray,←l1]
    rw [Bool.eq_iff_iff,List.all_eq_true,List.all_eq_true]
    constructor
    . intro hx b hb
      obtain⟨i,hi⟩:=List.getElem?_of_mem hb
      have:=hx i (List.mem_range.mpr (List.getElem?_eq_some_iff.mp hi).1)
      rw [hi] at this
      exact this
    . intro hx i hi
      have hlt:=List.mem_range.mp hi
      have hb:bs[i]?=some bs[i]:=by simp
      rw [hb]
      exact hx _ (List.getElem_mem _)
   rw [e]
   have I1:Inv X Ab σ H { s with heap:=h',toks:=tk }:=I.kept (fun b o e=>k b o (by simp;exact Nat.ne_of_lt (Heap.lt_size e)) (Heap.get?_push_of_some _ e))
   exact ⟨.bl (bs.all id),H,I1,rfl,q⟩
end
structure Has (P:Program) (w:World) (K:W.Frag) (mg:Str->Option Value) (base:Heap) (x:Str) (ps:List Str) (k:Nat) (sp:Sp):Prop where
 ex:∃ (f:Addr) (fd:FuncData),mg x=some (.ref f)/\PySem.W.keepIn K (.ref f)=true/\Gi K fd ps []/\FnOk P w K mg base CX0 k f fd ps sp
section
variable {X:Cx}{x:Str}{ps:List Str}{j k:Nat}{sp:Sp}{p pos:Pos}{e:Expr}{es:List Expr}{t:TA}
theorem A1 (h:Has X.prog X.w X.K X.mg X.base x ps j sp) (hr:Room k X.A) (hg:Gl X x) (ha:PA X (e::es) t) (hk:j<=k:=by decide) (hdb:(x==("__debug__":Str))=false:=by decide)
 (he:starEach (e::es) X.env=(false,eval e X.env)::starEach es X.env:=by rfl) (hpl:(backTo pos (starEach es X.env)).any (·.1)=false:=by rfl):PE X (.Call (.Name x p) (e::es) [] pos) (tCall sp [] E0 t):=by
 obtain⟨f,fd,h1,h2,h3,h4⟩:=h.ex
 exact Bi2 h4 (hr.mono hk) hg h1 h2 h3 .nil A96 ha hdb he hpl
end
theorem boot_intT:bootBuiltins "int"=some (.type "int"):=by decide +kernel
theorem We:bootBuiltins "bool"=some (.type "bool"):=by decide +kernel
theorem Eg:bootBuiltins "tuple"=some (.type "tuple"):=by decide +kernel
theorem Wd:bootBuiltins "list"=some (.type "list"):=by decide +kernel
theorem Hg:bootBuiltins "dict"=some (.type "dict"):=by decide +kernel
theorem Kk:bootBuiltins "max"=some (.builtin "max"):=by decide +kernel
theorem i8:bootBuiltins "all"=some (.builtin "all"):=by decide +kernel
theorem A4:bootBuiltins "isinstance"=some (.builtin "isinstance"):=by decide +kernel
end L2
namespace L2
open PySem PySem.Spec PyProof.Rows
section
variable {X:Cx}{K:W.Frag}{tg l:Expr}{tl:TE}{n:Nat}
theorem Mv (hK:X.K=K:=by rfl):OpR X (binaryOp .Add) (Bp5 K):=by subst hK;exact Bi7
theorem Fp (hK:X.K=K:=by rfl):OpR X (binaryOp .Add) (Bd0 K):=by subst hK;exact Ba2
theorem Ia (hK:X.K=K:=by rfl):SlR X (Bp4 K):=by subst hK;exact Bf9
theorem Af6 (hK:X.K=K:=by rfl):SlR X (rSlL K):=by subst hK;exact Bg1
theorem Bt (hK:X.K=K:=by rfl):IxR X (rIxL K):=by subst hK;exact Bk6
theorem Bm (hK:X.K=K:=by rfl):IxR X (rIxT K):=by subst hK;exact Bt2
theorem Ay (hK:X.K=K:=by rfl):Hl X (.builtin "len") (fun xs H Q=>∃ p ys,xs=[.ref p]/\(SqL K H p ys\/SqT K H p ys)/\Q (.int ys.length) H):=by subst hK;exact i6
theorem Mw (hK:X.K=K:=by rfl):Hl X (.type "list") (fun xs H Q=>∃ p ys,xs=[.ref p]/\(SqL K H p ys\/SqT K H p ys)/\∀ l,H l=none->Q (.ref l) (upd H l (.lst ys))):=by subst hK;exact i5
theorem Ek (hK:X.K=K:=by rfl):Hl X (.type "tuple") (fun xs H Q=>∃ p ys,xs=[.ref p]/\((SqL K H p ys/\∀ l,H l=none->Q (.ref l) (upd H l (.tup ys)))\/(SqT K H p ys/\Q (.ref p) H))):=by subst hK;exact Yu
theorem Vw (hc:X.calm=true) (hK:X.K=K:=by rfl):Hl X (.builtin "all") (fun xs H Q=>∃ (p:Addr) (bs:List Bool),xs=[.ref p]/\SqL K H p (bs.map V.bl)/\Q (.bl (bs.all id)) H):=by subst hK;exact A55 hc
theorem Bk2 (hu:X.A.units+n<cLine) (hK:X.K=K:=by rfl):OpR X (compareOp .In) (rInD K n false):=by subst hK;exact Bq6 hu
theorem Gx (hu:X.A.units+n<cLine) (hK:X.K=K:=by rfl):OpR X (compareOp .NotIn) (rInD K n true):=by subst hK;exact Aw0 hu
theorem Jz (hu:X.A.units+n<cLine) (hK:X.K=K:=by rfl):OpR X (compareOp .Eq) (rEqD K n):=by subst hK;exact Bq7 hu
theorem Az3 (hu:X.A.units+n<cLine) (hK:X.K=K:=by rfl):MtR X "list.index" (Bc9 K n):=by subst hK;exact Ba7 hu
theorem C5 (hl:PE X l tl) (hK:X.K=K:=by rfl):PI X tg l (Bt6 K tl):=by subst hK;exact Bh4 hl
theorem R6 (hl:PE X l tl) (hK:X.K=K:=by rfl):PI X tg l (iTup K tl):=by subst hK;exact Bq0 hl
variable {o e:Expr}{es:List Expr}{to:TE}{t:TA}{name:Str}{apos cpos:Pos}{T id:String}{r:V->List V->Hp->VK->Prop}
theorem Le (pa:PlainAttrs T) (slot:Slot T name id) (hty:typeOf (.builtin id)=pure (.type "method_descriptor")) (hm:MtR X id r) (ho:PE X o to) (ha:PA X (e::es) t) (hK:X.K=K:=by rfl)
 (hbase:attributeBase o name X.env (eval o X.env)=eval o X.env:=by rfl)
 (hfew:((backTo cpos (starEach (e::es) X.env)).all (fun x=>!x.1)&&(backToKw cpos (keywordEach [] X.env)).all (fun x=>x.1.isSome)
   && decide ((e::es).length+([]:List Keyword).length+(if ([]:List Keyword).isEmpty then 0 else 1)<30))=true:=by rfl)
 (hline:(apos.endLine==cpos.line)=true:=by rfl) (hs:starEach (e::es) X.env=(false,eval e X.env)::starEach es X.env:=by rfl) (hplain:(backTo cpos (starEach es X.env)).any (·.1)=false:=by rfl) :
 PE X (.Call (.Attribute o name apos) (e::es) [] cpos) (tBM K T r to t):=by subst hK;exact Bv8 pa slot hty hm ho ha hbase hfew hline hs hplain
theorem L8 {es:List Expr}{k:Nat}{t:TGs}{n:Nat}{pos:Pos} (hc:X.calm=true) (h:PGs X es t) (hK:X.K=K:=by rfl)
 (hn:(assignEach es X.env).length=n:=by rfl) (hst:(assignEach es X.env).findIdx? (·.1)=none:=by rfl):PG X (.Tuple es k pos) (gTup K n t):=by subst hK;exact Bq1 hc h hn hst
end
end L2
namespace L2
open PySem PySem.Spec PyProof.Rows
def A68 (f:Obj->Obj):Prop:=∀ o,(f o).dict=o.dict/\(o.isFreed=false->(f o).isFreed=false)
def Bi {α:Type}:Sem α->Prop
 | .pure _=>True
 | .raise _=>True
 | .unsupported _=>True
 | .finish _=>True
 | .rule _ k=>Bi (k ())
 | .at _ k=>Bi (k ())
 | .load _ _ k=>∀ o,Bi (k o)
 | .update _ _ f k=>A68 f/\Bi (k ())
 | .alloc _ k=>∀ a,Bi (k a)
 | .loadIfAlive _ k=>∀ o,Bi (k o)
 | .point _ k=>Bi (k ())
 | .register _ _=>True
 | .fresh k=>∀ t,Bi (k t)
 | .ask k=>∀ x,Bi (k x)
 | .choose _ _ k=>∀ n,Bi (k n)
 | .os _ _ k=>∀ r,Bi (k r)
 | .call _ _ _ _ _=>False
 | .handled _ k=>∀ v,Bi (k v)
 | .newGen _ k=>∀ n,Bi (k n)
 | .genState _ k=>∀ x,Bi (k x)
 | .resume _ _ _ _=>False
 | .yield _ _ _ _=>True
 | .stack k=>∀ x,Bi (k x)
 | .fork _ _=>True
 | .thread k=>∀ x,Bi (k x)
 | .await _ _ _ _ _=>True
theorem Bi.bind {α β:Type}{m:Sem α}{k:α->Sem β} (h:Bi m) (hk:∀ a,Bi (k a)):Bi (m>>=k):=by
 show Bi (Sem.bind m k)
 induction m with
 | pure a=>exact hk a
 | rule t c ih=>exact ih () h
 | «at» p c ih=>exact ih () h
 | load a p c ih=>exact fun o=>ih o (h o)
 | update a p f c ih=>exact ⟨h.1,ih () h.2⟩
 | alloc o c ih=>exact fun a=>ih a (h a)
 | loadIfAlive a c ih=>exact fun o=>ih o (h o)
 | point l c ih=>exact ih () h
 | fresh c ih=>exact fun o=>ih o (h o)
 | ask c ih=>exact fun o=>ih o (h o)
 | choose s n c ih=>exact fun o=>ih o (h o)
 | os r l c ih=>exact fun o=>ih o (h o)
 | handled o c ih=>exact fun o=>ih o (h o)
 | newGen g c ih=>exact fun o=>ih o (h o)
 | genState g c ih=>exact fun o=>ih o (h o)
 | stack c ih=>exact fun o=>ih o (h o)
 | thread c ih=>exact fun o=>ih o (h o)
 | call c a b d e=>exact False.elim h
 | resume a b c d=>exact False.elim h
 | _=>trivial
def Fb (h h':Heap):Prop:=∀ b o,h.get? b=some o->∃ o',h'.get? b=some o'/\o'.dict=o.dict
theorem Fb.refl (h:Heap):Fb h h:=fun _ o e=>⟨o,e,rfl⟩
theorem Fb.trans {h h1 h2:Heap} (x:Fb h h1) (y:Fb h1 h2):Fb h h2:=fun b o e=>by
 obtain⟨o1,e1,d1⟩:=x b o e
 obtain⟨o2,e2,d2⟩:=y b o1 e1
 exact ⟨o2,e2,d2.trans d1⟩
theorem Fb.push (h:Heap) (o:Obj):Fb h (h.push o):=fun b o' e=>⟨o',Heap.get?_push_of_some o e,rfl⟩
theorem Fb.update {h:Heap}{a:Addr}{f:Obj->Obj} (g:A68 f):Fb h (h.update a f):=fun b o e=>by
 by_cases z:a=b
 . subst z
   exact ⟨f o,Heap.get?_update_self f e ((g o).2 (Heap.get?_some_iff.mp e).2),(g o).1⟩
 . exact ⟨o,by rw [Heap.get?_update_other _ _ z];exact e,rfl⟩
theorem Ar9 {α:Type}{M:Model}{Γ:PySem.Ctx}{Q:α->Pos->Shared->Prop}{E:Value->Pos->Shared->Prop}{t:Sem α} (hk:Bi t):∀ (p:Pos) (s:Shared),Sem.wp M Γ t Q E p s →
 Sem.wp M Γ t (fun a p' s'=>Q a p' s'/\Fb s.heap s'.heap) (fun e p' s'=>E e p' s'/\Fb s.heap s'.heap) p s:=by
 induction t with
 | pure a=>intro p s h;exact ⟨h,Fb.refl _⟩
 | raise e=>intro p s h;exact ⟨h,Fb.refl _⟩
 | unsupported w=>intro p s h;exact h
 | finish e=>intro p s h;exact h
 | rule g k ih=>intro p s h;exact ih () hk _ _ h
 | «at» p' k ih=>intro p s h;exact ih () hk _ _ h
 | load a q k ih=>intro p s h;obtain⟨o,e,h⟩:=h;exact ⟨o,e,ih o (hk o) _ _ h⟩
 | update a q f k ih =>
   intro p s h
   obtain⟨e,h⟩:=h
   refine⟨e,?_⟩
   have:=ih () hk.2 _ _ h
   exact wp_tr this (Fb.update hk.1)
 | alloc o k ih=>intro p s h;exact wp_tr (ih _ (hk _) _ _ h) (Fb.push _ _)
 | loadIfAlive a k ih=>intro p s h;exact ih _ (hk _) _ _ h
 | point l k ih=>intro p s h;exact ih () hk _ _ h
 | register a k ih=>intro p s h;exact h
 | fresh k ih=>intro p s h;exact ih _ (hk _) _ _ h
 | ask k ih=>intro p s h;exact ih _ (hk _) _ _ h
 | choose c n k ih=>intro p s h;exact ⟨h.1,ih _ (hk _) _ _ h.2⟩
 | os r l k ih=>intro p s h;exact ih _ (hk _) _ _ h
 | call c a b d k ih=>exact False.elim hk
 | handled o k ih=>intro p s h;exact ih _ (hk _) _ _ h
 | newGen c k ih=>intro p s h;exact ih _ (hk _) _ _ h
 | genState g k ih=>intro p s h;obtain⟨x,e,h⟩:=h;exact ⟨x,e,ih _ (hk _) _ _ h⟩
 | resume a b c k ih=>exact False.elim hk
 | yield a b c k ih=>intro p s h;exact h
 | stack k ih=>intro p s h;exact ih _ (hk _) _ _ h
 | fork c k ih=>intro p s h;exact h
 | thread k ih=>intro p s h;exact ih _ (hk _) _ _ h
 | await a b c d k ih=>intro p s h;exact h
where
 wp_tr {α:Type}{M:Model}{Γ:PySem.Ctx}{Q:α->Pos->Shared->Prop}{E:Value->Pos->Shared->Prop}{t:Sem α}{p:Pos}{s:Shared}{h h1:Heap}
  (x:Sem.wp M Γ t (fun a p' s'=>Q a p' s'/\Fb h1 s'.heap) (fun e p' s'=>E e p' s'/\Fb h1 s'.heap) p s) (y:Fb h h1) :
  Sem.wp M Γ t (fun a p' s'=>Q a p' s'/\Fb h s'.heap) (fun e p' s'=>E e p' s'/\Fb h s'.heap) p s :=
  Sem.wp_mono _ _ _ (fun _ _ _ z=>⟨z.1,y.trans z.2⟩) (fun _ _ _ z=>⟨z.1,y.trans z.2⟩) _ _ x
theorem Es {α:Type}{M:Model}{A:Around}{Q:α->Shared->Prop}{E:Value->Shared->Prop}{t:Sem α}{s:Shared} (hk:Bi t) (h:wpAny M A t Q E s) :
 wpAny M A t (fun a s'=>Q a s'/\Fb s.heap s'.heap) (fun e s'=>E e s'/\Fb s.heap s'.heap) s:=fun Γ p hi=>Ar9 hk _ _ (h Γ p hi)
theorem Ci {α:Type} (a:α):Bi (pure a:Sem α):=True.intro
theorem U1 {α:Type} (w:String):Bi (unsupported w:Sem α):=True.intro
theorem Aa7 (a:Addr):Bi (load a):=fun _=>True.intro
theorem Z1 (a:Addr) {f:Obj->Obj} (h:A68 f):Bi (update a f):=⟨h,True.intro⟩
theorem Af7 (o:Obj):Bi (alloc o):=fun _=>True.intro
theorem X3:Bi stack:=fun _=>True.intro
theorem b4 (g:Array Value->Array Value):A68 (Obj.mapFields g):=fun o=>by
 obtain⟨c,d,da,sl⟩:=o
 cases da<;>exact ⟨rfl,fun h=>h⟩
theorem Ab6 (g:Obj->Array (Option Value)):A68 (fun o=>{ o with slots:=g o }):=fun o=>⟨rfl,fun h=>by
 obtain⟨c,d,da,sl⟩:=o
 cases da<;>exact h⟩
theorem U0 (a:Addr) (i:Nat) (v:Value):Bi (updateField a i v):=by
 unfold updateField
 refine (Aa7 a).bind fun o=>?_
 split
 . split
   . exact Z1 a (b4 _)
   . exact U1 _
 . exact U1 _
theorem L9 (v:Value) (i:Nat) (x:Value):Bi (setField v i x):=by
 unfold setField
 split
 . exact U0 _ _ _
 . exact U1 _
theorem Aa9 (v:Value):Bi (fieldsOf v):=by
 unfold fieldsOf
 split
 . refine (Aa7 _).bind fun o=>?_
   split
   . exact Ci _
   . exact U1 _
 . exact U1 _
theorem P7 (v:Value) (i:Nat):Bi (field v i):=by
 unfold field
 refine (Aa9 v).bind fun vs=>?_
 split
 . exact Ci _
 . exact U1 _
theorem J0 (e:Value) (fr:Option Addr):Bi (setFlight e fr):=by
 unfold setFlight
 refine (P7 e 1).bind fun tb=>?_
 split
 . exact L9 _ _ _
 . exact Ci _
theorem Z2 (ty:String) (vs:List Value):Bi (newFields ty vs):=by
 unfold newFields newObj
 dsimp only
 split
 . exact (U1 _).bind fun _=>(Af7 _).bind fun _=>Ci _
 . exact (Af7 _).bind fun _=>Ci _
theorem R8 (f:Addr) (b:Bool):Bi (entryPlaceOf f b):=by
 unfold entryPlaceOf
 refine X3.bind fun acts=>?_
 split
 . exact Ci _
 . exact Ci _
theorem Z3:Bi frameEnvs:=by
 unfold frameEnvs
 exact X3.bind fun _=>Ci _
theorem Az7 (env:Env) (outer:List Env):Bi (behindIsImport env outer):=by
 unfold behindIsImport
 split
 . exact Ci _
 . split
   . exact Ci _
   . exact (P7 _ _).bind fun _=>Ci _
theorem Az6:Bi underTheClaimsCaller:=by
 unfold underTheClaimsCaller
 exact X3.bind fun _=>Ci _
theorem Aa8 (env:Env) (i:Bool) (outer:List Env):Bi (keptBack env i outer):=by
 cases outer with
 | nil =>
   rw [keptBack]
   by_cases z:(env.scope.isGenerator || env.scope.isCoroutine)=true
   . rw [if_pos z];exact Ci _
   . rw [if_neg z];exact Az6.bind fun _=>Ci _
 | cons c r=>exact Ci _
theorem Lf:∀ l:List Env,Bi (readyFrames l)
 | []=>Ci _
 | env::outer=>by
   unfold readyFrames
   split
   . refine (Aa7 _).bind fun o=>?_
     split
     . exact Ci _
     . refine (Az7 _ _).bind fun b=>(Aa8 _ _ _).bind fun v=>(Z1 _ (Ab6 _)).bind fun _=>Lf outer
   . exact U1 _
theorem An6 (env:Env):Bi (PySem.frameOf env):=by
 unfold PySem.frameOf
 refine Z3.bind fun es=>?_
 refine Bi.bind ?_ fun o=>?_
 . generalize es.dropWhile _=l
   cases l with
   | nil=>exact Ci _
   | cons x r=>exact (Lf _).bind fun _=>Ci _
 . split
   . exact Ci _
   . exact U1 _
theorem O3 (e:Value) (env:Env):Bi (noteFrame e env):=by
 unfold noteFrame
 cases env.frame with
 | none=>exact U1 _
 | some f =>
   have tail:∀ head:Value,Bi (do let a ←PySem.frameOf env;let pl ←entryPlaceOf f (head != .none);let b ←EntryCells.newEntry head a .none (rawInt f) .none pl;setField e 1 b):=fun head =>
    Bi.bind (An6 env) fun a=>Bi.bind (R8 f _) fun pl=>Bi.bind (Z2 _ _) fun b=>L9 _ _ _
   refine (P7 e 1).bind fun head=>?_
   by_cases z:(head != Value.none)=true
   . rw [if_pos z]
     refine (P7 head 3).bind fun x=>?_
     by_cases y:(x==rawInt f)=true
     . rw [if_pos y];exact Ci _
     . rw [if_neg y]
       refine (L9 _ _ _).bind fun _=>?_
       exact tail head
   . rw [if_neg z]
     exact tail head
theorem Vv (env:Env) (e:Value):Bi (leaving env e):=by
 unfold leaving
 exact (O3 e env).bind fun _=>J0 e none
end L2
namespace L2
open PySem PySem.Spec PyProof.Rows
theorem ObjOk.ob {P:Program}{w:World}{H:Hp}{h:Heap}{a:Addr}{o:HO} (x:ObjOk P w H h a o):∃ u,h.get? a=some u:=by
 cases o with
 | lst xs=>obtain⟨_,_,_,_,e⟩:=x;exact ⟨_,e⟩
 | tup xs=>obtain⟨_,_,_,ob,e,_⟩:=x;exact ⟨_,e⟩
 | dK kvs=>obtain⟨_,_,_,_,ob,_,_,e,_⟩:=x;exact ⟨_,e⟩
 | dT kvs=>obtain⟨_,_,_,_,ob,_,_,e,_⟩:=x;exact ⟨_,e⟩
 | set S n=>obtain⟨ob,_,_,_,e,_⟩:=x;exact ⟨_,e⟩
 | ins C dx fs=>obtain⟨_,_,_,e,_⟩:=x;exact ⟨_,e⟩
 | own y=>exact x
 | xd fs=>obtain⟨_,⟨ob,_,_,e,_⟩,_⟩:=x;exact ⟨_,e⟩
 | rng lo hi=>obtain⟨_,_,_,e⟩:=x;exact ⟨_,e⟩
 | frz ob u=>obtain⟨e,_⟩:=x;exact ⟨_,e⟩
 | tbl ps=>exact ⟨_,(show h.get? a=some _ from x)⟩
 | met f y=>exact ⟨_,(show h.get? a=some _ from x)⟩
 | ext φ=>obtain⟨_,e,_⟩:=x;exact e
structure XUn (fs:List Addr) (H H':Hp) (h B h':Heap):Prop where
 kp:∀ b o,h.get? b=some o->H b=none->b ∉ fs->B.get? b=some o
 sl:∀ b o,h.get? b=some o->H b=none->b∈fs->∃ z,h'.get? b=some { o with slots:=z }
 fr:∀ b o,h.get? b=some o->H b=none->H' b=none
 th:∀ b o,h.get? b=some o->b ∉ fs->∃ z,B.get? b=some z
 tu:∀ b xs,H b=some (.tup xs)->H' b=some (.tup xs)
 fz:∀ b o u,H b=some (.frz o u)->H' b=some (.frz o u)
 tb:∀ b ps,H b=some (.tbl ps)->∃ more,H' b=some (.tbl (ps++more))
section
variable {fs:List Addr}{H H':Hp}{h B h' h2:Heap}
theorem XUn.un (x:XUn fs H H' h B h') (hB:B.StaysIn h2) (hf:∀ b∈fs,H b=none) (hs:∀ b o,h'.get? b=some o->b∈fs->∃ z,h2.get? b=some { o with slots:=z }):Un fs [] H H' h h2 where
 keep:=fun b o e n hb _=>hB b o (x.kp b o e n hb)
 slot:=fun b o e n hb _=>by
  obtain⟨z,e1⟩:=x.sl b o e n hb
  obtain⟨z',e2⟩:=hs b _ e1 hb
  exact ⟨z',e2⟩
 free:=fun b o e n _=>x.fr b o e n
 there:=fun b o e _=>by
  by_cases hb:b∈fs
  . obtain⟨z,e1⟩:=x.sl b o e (hf b hb) hb
    obtain⟨z',e2⟩:=hs b _ e1 hb
    exact ⟨_,e2⟩
  . obtain⟨z,e1⟩:=x.th b o e hb
    exact ⟨z,hB b z e1⟩
 tups:=x.tu
 frzs:=x.fz
 tbls:=x.tb
theorem b6 {l:List Env} (ff:h'.FunFrames B l) (up:h'.UpToSlots h2):∀ b o,h'.get? b=some o->b∈frs l->∃ z,h2.get? b=some { o with slots:=z }:=fun b o e hb=>by
 obtain⟨_,o',e',hd⟩:=ff.mem hb
 rw [e] at e'
 cases e'
 exact up b o e hd
theorem XUn.next {l:List Env} (x:XUn (frs l) H H' h B h') (ff:h'.FunFrames B l) (up:h'.UpToSlots h2):XUn (frs l) H H' h B h2 :=
 ⟨x.kp,fun b o e n hb=>by
  obtain⟨z,e1⟩:=x.sl b o e n hb
  obtain⟨z',e2⟩:=b6 ff up b _ e1 hb
  exact ⟨z',e2⟩,x.fr,x.th,x.tu,x.fz,x.tb⟩
end
def ErrD (e:Addr) (dx:Option Addr) (h:Heap):Prop:=∃ o,h.get? e=some o/\o.dict=dx
theorem ErrD.go {e:Addr}{dx:Option Addr}{h h':Heap} (x:ErrD e dx h) (k:Fb h h'):ErrD e dx h':=by
 obtain⟨o,e1,d1⟩:=x
 obtain⟨o',e2,d2⟩:=k e o e1
 exact ⟨o',e2,d2.trans d1⟩
def CX1 (P:Program) (w:World):CXT:=fun outer H s E u s'=>∃ (e:Addr) (cls a0:Value) (B:Heap) (H':Hp) (dx:Option Addr),u=.ref e/\s'.os=s.os/\AllBare s'.gens/\XUn (frs outer) H H' s.heap B s'.heap/\HOk P w H' B/\Heap.FlyingW B outer e cls a0 s'.heap/\ErrD e dx s'.heap/\E cls dx H'
def FlyAt (X:Cx) (Ab:List (Addr × Obj)) (e:Addr) (cls a0:Value) (dx:Option Addr) (σ:St) (H':Hp) (s':Shared):Prop :=
 ∃ (B:Heap) (H:Hp) (s:Shared),Inv X Ab σ H s/\s'.os=s.os/\AllBare s'.gens/\XUn (frs X.stack) H H' s.heap B s'.heap/\HOk X.prog X.w H' B/\Heap.FlyingW B X.stack e cls a0 s'.heap/\ErrD e dx s'.heap
abbrev XJ:=Value->Option Addr->St->Hp->Prop
def Fly (X:Cx) (J:XJ) (u:Value) (s':Shared):Prop:=∃ (e:Addr) (cls a0:Value) (dx:Option Addr) (σ:St) (H':Hp),u=.ref e/\FlyAt X [] e cls a0 dx σ H' s'/\J cls dx σ H'
def Y0 (X:Cx) (J:XJ):Prop:=∀ u s',Fly X J u s'->X.xe u s'
def Bu7 (X:Cx) (J:XJ):Prop:=∀ (Ab:List (Addr × Obj)) (σ:St) (H:Hp) (s:Shared) (e:Addr) (cls:Value) (vs:List Value) (h':Heap),Inv X Ab σ H s->Heap.MadeExcOf s.heap h' e cls vs->J cls none σ H->X.xe (.ref e) { s with heap:=h' }
def excO (e:Addr) (cls:Value):HO:=.ext fun h=>∃ o vs,h.get? e=some o/\o.cls=cls/\o.data=.fields vs
def excX (e:Addr) (cls:Value):Option Addr->HO
 | none=>excO e cls
 | some d=>.ext fun h=>∃ o vs,h.get? e=some o/\o.cls=cls/\o.data=.fields vs/\o.dict=some d
section
variable {X:Cx}{Ab:List (Addr × Obj)}{σ:St}{H H':Hp}{s s':Shared}{e:Addr}{cls a0:Value}{dx:Option Addr}
theorem Inv.nopin (I:Inv X Ab σ H s):Inv X [] σ H s:=I.pins_of (fun p hp=>nomatch hp)
theorem FlyAt.step {B:Heap}{h2:Heap}{S:Shared} (I:Inv X Ab σ H S) (q1:s'.os=S.os) (q2:AllBare s'.gens) (q3:XUn (frs X.stack) H H' S.heap B s'.heap) (q4:HOk X.prog X.w H' B) (q5:Heap.FlyingW B X.stack e cls a0 s'.heap)
 (f:Heap.FlyingW B X.stack e cls a0 h2) (up:s'.heap.UpToSlots h2) (d:ErrD e dx h2):FlyAt X Ab e cls a0 dx σ H' { s' with heap:=h2 } :=
 ⟨B,H,S,I,q1,q2,q3.next q5.2.2.1 up,q4,f,d⟩
theorem FlyAt.apart {B:Heap}{S:Shared} (q3:XUn (frs X.stack) H H' S.heap B s'.heap) (q5:Heap.FlyingW B X.stack e cls a0 s'.heap):S.heap.get? e=none:=by
 cases z:S.heap.get? e with
 | none=>rfl
 | some o =>
   by_cases hb:e∈frs X.stack
   . obtain⟨_,o',e1,hd⟩:=q5.2.2.1.mem hb
     obtain⟨oe,vs,e2,_,d2,_⟩:=q5.first
     rw [e1] at e2
     cases e2
     exact absurd d2 (hd vs)
   . obtain⟨o',e1⟩:=q3.th e o z hb
     have e2:=q5.2.1
     rw [e1] at e2
     cases e2
theorem HOk.none_of {P:Program}{w:World}{B:Heap} (q:HOk P w H' B) (z:B.get? e=none):H' e=none:=by
 cases y:H' e with
 | none=>rfl
 | some o =>
   obtain⟨u,e1⟩:=(q e o y).ob
   rw [e1] at z
   cases z
theorem FlyAt.inv (F:FlyAt X Ab e cls a0 dx σ H' s'):Inv X Ab σ H' s'/\H' e=none:=by
 obtain⟨B,H,S,I,q1,q2,q3,q4,q5,_⟩:=F
 exact ⟨I.call' (ch:=[]) q1 (q3.un q5.1 I.stkFree fun b o e1 _=>⟨o.slots,e1⟩) (q4.kept q5.1) q2 (fun b z=>absurd z (by simp)),q4.none_of q5.2.1⟩
theorem FlyAt.held (F:FlyAt X Ab e cls a0 dx σ H' s'):Inv X Ab σ (upd H' e (excX e cls dx)) s'/\H' e=none:=by
 obtain⟨B,H,S,I,q1,q2,q3,q4,q5,dE⟩:=F
 have hn:=q4.none_of q5.2.1
 have ha:=FlyAt.apart q3 q5
 have ne:∀ b u,H' b=some u->b≠e:=fun b u y=>A8 y hn
 have q6:XUn (frs X.stack) H (upd H' e (excX e cls dx)) S.heap B s'.heap :=
  ⟨q3.kp,q3.sl,fun b o e1 n=>by
   have:b≠e:=fun z=>by rw [z,ha] at e1;cases e1
   rw [An this]
   exact q3.fr b o e1 n,q3.th,fun b xs y=>by
   have y':=q3.tu b xs y
   rw [An (ne b _ y')]
   exact y',fun b o u y=>by
   have y':=q3.fz b o u y
   rw [An (ne b _ y')]
   exact y',fun b ps y=>by
   obtain⟨more,y'⟩:=q3.tb b ps y
   exact ⟨more,by rw [An (ne b _ y')];exact y'⟩⟩
 refine⟨I.call' (ch:=[]) q1 (q6.un q5.1 I.stkFree fun b o e1 _=>⟨o.slots,e1⟩) (fun b u y=>?_) q2 (fun b z=>absurd z (by simp)),hn⟩
 have hk:=q4.kept q5.1
 by_cases hb:b=e
 . subst hb
   rw [Ae] at y
   cases y
   obtain⟨oe,vs,e2,c2,d2,_⟩:=q5.first
   obtain⟨o3,e3,d3⟩:=dE
   rw [e2] at e3
   cases e3
   cases dx with
   | none=>exact ⟨⟨oe,vs,e2,c2,d2⟩,⟨oe,e2⟩,fun h1 h2 ⟨o,ws,a1,a2,a3⟩ k=>⟨o,ws,k o a1,a2,a3⟩⟩
   | some d=>exact ⟨⟨oe,vs,e2,c2,d2,d3⟩,⟨oe,e2⟩,fun h1 h2 ⟨o,ws,a1,a2,a3,a4⟩ k=>⟨o,ws,k o a1,a2,a3,a4⟩⟩
 . rw [An hb] at y
   exact (hk b u y).stay (fun _ _ _ q=>q) (fun c q=>by rw [An (ne c _ q)];exact q) fun c xs q=>by rw [An (ne c _ q)];exact q
end
section
variable {P:Program}{w:World}{K:W.Frag}{mg:Str->Option Value}{base:Heap}{N:List Str}{qual:Str}{scope:Scope}{f:Addr}{cd:Value}{A:Around}{outer:List Env}{s:Shared}{H:Hp}{E:XK}
theorem A15:frs (envOfC qual scope s.heap.objs.size f cd::outer)=s.heap.objs.size::frs outer:=rfl
theorem A18:Y0 (cxOf (CX1 P w) P w K mg base N qual scope f cd A outer s H E) (fun cls dx _ H'=>E cls dx H'):=by
 rintro u s' ⟨e,cls,a0,dx,σ,H2,rfl,⟨B,H1,s1,I,q1,q2,q3,q4,q5,dE⟩,q6⟩
 have old:∀ b o,s.heap.get? b=some o->b ∉ frs outer->b ∉ frs (envOfC qual scope s.heap.objs.size f cd::outer):=fun b o e1 hb z=>by
  rw [A15] at z
  rcases List.mem_cons.mp z with y | y
  . exact absurd (Heap.lt_size e1) (by rw [y];exact Nat.lt_irrefl _)
  . exact hb y
 have nx:∀ b:Addr,b ∉ ([]:List Addr):=fun b=>by simp
 show wpAny (model P w) (A.deeper (envOfC qual scope s.heap.objs.size f cd)) (leaving (envOfC qual scope s.heap.objs.size f cd) (.ref e)) _ _ s'
 refine wpAny_mono (Es (Vv _ _) (wpAny_leaves_onW (E:=fun _ _=>False) (Q:=fun _ s2=>∃ h2,s2={ s' with heap:=h2 }/\Heap.FlyingW B outer e cls a0 h2/\s'.heap.UpToSlots h2) (L:=s.heap.objs.size) I.ok.frames rfl q5 fun h2 x1 x2=>⟨h2,rfl,x1,x2⟩)) (fun _ s2 ⟨⟨h2,e2,x1,x2⟩,kd⟩=>?_) (fun _ _ z=>z.1.elim)
 subst e2
 refine⟨e,cls,a0,B,H2,dx,rfl,q1.trans I.os,q2,⟨fun b o e1 n hb=>?_,fun b o e1 n hb=>?_,fun b o e1 n=>?_,fun b o e1 hb=>?_,fun b xs y=>q3.tu b xs (I.base.tups b xs y),fun b o u y=>q3.fz b o u (I.base.frzs b o u y),fun b ps y=>?_⟩,q4,x1,dE.go kd,q6⟩
 . exact q3.kp b o (I.base.keep b o e1 n hb (nx b)) (I.base.free b o e1 n (nx b)) (old b o e1 hb)
 . obtain⟨z,e2⟩:=I.base.slot b o e1 n hb (nx b)
   have hm:b∈frs (envOfC qual scope s.heap.objs.size f cd::outer):=List.mem_cons_of_mem _ hb
   obtain⟨z',e3⟩:=q3.sl b _ e2 (I.base.free b o e1 n (nx b)) hm
   obtain⟨z2,e4⟩:=b6 q5.2.2.1 x2 b _ e3 hm
   exact ⟨z2,e4⟩
 . obtain⟨o',e2⟩:=I.base.there b o e1 (nx b)
   exact q3.fr b o' e2 (I.base.free b o e1 n (nx b))
 . obtain⟨o',e2⟩:=I.base.there b o e1 (nx b)
   exact q3.th b o' e2 (old b o e1 hb)
 . obtain⟨m1,y1⟩:=I.base.tbls b ps y
   obtain⟨m2,y2⟩:=q3.tb b _ y1
   exact ⟨m1++m2,by rw [y2,Array.append_assoc]⟩
theorem Mt:Bu7 (cxOf (CX1 P w) P w K mg base N qual scope f cd A outer s H E) (fun cls dx _ H'=>E cls dx H'):=by
 intro Ab σ H1 s1 e cls vs h' I hx hj
 have fin:∀ env∈(envOfC qual scope s.heap.objs.size f cd::outer),∀ b,env.frame=some b->b∈frs (envOfC qual scope s.heap.objs.size f cd::outer):=fun env he b hb=>List.mem_filterMap.mpr ⟨env,he,hb⟩
 have old:∀ b o,s.heap.get? b=some o->b ∉ frs outer->b ∉ frs (envOfC qual scope s.heap.objs.size f cd::outer):=fun b o e1 hb z=>by
  rw [A15] at z
  rcases List.mem_cons.mp z with y | y
  . exact absurd (Heap.lt_size e1) (by rw [y];exact Nat.lt_irrefl _)
  . exact hb y
 have nx:∀ b:Addr,b ∉ ([]:List Addr):=fun b=>by simp
 have fr1:∀ b∈frs (envOfC qual scope s.heap.objs.size f cd::outer),H1 b=none:=I.stkFree
 show wpAny (model P w) (A.deeper (envOfC qual scope s.heap.objs.size f cd)) (leaving (envOfC qual scope s.heap.objs.size f cd) (.ref e)) _ _ { s1 with heap:=h' }
 have dE:ErrD e none h':=by
  obtain⟨_,_,t0,hget,_⟩:=hx
  exact ⟨_,hget,rfl⟩
 refine wpAny_mono (Es (Vv _ _) (wpAny_leaves_madeW (E:=fun _ _=>False) (Q:=fun _ s2=>∃ h2 t,s2={ s1 with heap:=h2 }/\Heap.FlyingW (PySem.W.hideAll s1.heap (frs (envOfC qual scope s.heap.objs.size f cd::outer))) outer e cls (.ref t) h2/\h'.UpToSlots h2) (L:=s.heap.objs.size) (base:=PySem.W.hideAll s1.heap (frs (envOfC qual scope s.heap.objs.size f cd::outer))) (h:=s1.heap) I.ok.frames rfl (fun b o q=>PySem.W.of_hideAll _ q) (PySem.W.funFrames_hide I.stack fin) hx fun h2 t x1 x2 x3 x4=>⟨h2,t,rfl,x1,x4⟩)) (fun _ s2 ⟨⟨h2,t,e2,x1,x4⟩,kd⟩=>?_) (fun _ _ z=>z.1.elim)
 subst e2
 refine⟨e,cls,.ref t,_,H1,none,rfl,I.os,I.bare,⟨fun b o e1 n hb=>?_,fun b o e1 n hb=>?_,fun b o e1 n=>I.base.free b o e1 n (nx b),fun b o e1 hb=>?_,I.base.tups,I.base.frzs,I.base.tbls⟩,?_,x1,dE.go kd,hj⟩
 . exact PySem.W.hideAll_get _ (I.base.keep b o e1 n hb (nx b)) (old b o e1 hb)
 . obtain⟨z,e2⟩:=I.base.slot b o e1 n hb (nx b)
   obtain⟨_,o',e3,hd⟩:=I.ok.funs.mem hb
   have e3':s.heap.get? b=some o':=e3
   rw [e1] at e3'
   cases e3'
   obtain⟨z2,e4⟩:=x4 b _ (hx.keeps b _ e2) hd
   exact ⟨z2,e4⟩
 . obtain⟨o',e2⟩:=I.base.there b o e1 (nx b)
   exact ⟨o',PySem.W.hideAll_get _ e2 (old b o e1 hb)⟩
 . intro a u y
   refine (I.hok a u y).stay (fun b v hb q=>PySem.W.hideAll_get _ q fun hm=>?_) (fun _ q=>q) fun _ _ q=>q
   have z:=fr1 b hm
   rcases hb with rfl | hb
   . rw [y] at z;cases z
   . rw [hb] at z;cases z
theorem Fun.okX {x:Str}{st:Stmt}{fd:FuncData}{ps:List Str}{k:Nat}{sp:Sp} (F:Fun K x qual st f fd) (S:FnScope N ps (Aj st)) (len:∀ vs H Q E,sp vs H Q E->vs.length=ps.length)
 (hbody:∀ (Bw:Value) (A:Around) (outer:List Env) (s:Shared) (H:Hp) (vs:List V) (Q:VK) (E:XK),Room k (A.deeper (envOfC qual (Aj st) s.heap.objs.size f Bw))->sp vs H Q E →
   ∃ t,PSs (cxOf (CX1 P w) P w K mg base N qual (Aj st) f Bw A outer s H E) (Ba st) t/\t { nx:=fun _ H'=>Q .non H',rt:=Q } (start N vs) H):FnOk P w K mg base (CX1 P w) (k+1) f fd ps sp:=by
 obtain⟨oc,od,kV,doc,pm,an,Bw,ct,osl,rfl,lk,hcd⟩:=F.ex
 exact Bl5 lk hcd S len fun A outer s H vs Q E hr hsp=>hbody Bw A outer s H vs Q E hr hsp
end
structure HasX (P:Program) (w:World) (K:W.Frag) (mg:Str->Option Value) (base:Heap) (x:Str) (ps:List Str) (k:Nat) (sp:Sp):Prop where
 ex:∃ (f:Addr) (fd:FuncData),mg x=some (.ref f)/\PySem.W.keepIn K (.ref f)=true/\Gi K fd ps []/\FnOk P w K mg base (CX1 P w) k f fd ps sp
def Bo8 (sp:Sp) (J:XJ) (t:TA):TE:=fun σ H Q=>t σ H fun vs H1=>sp vs H1 Q (fun cls dx H2=>J cls dx σ H2)
section
variable {X:Cx}{J:XJ}{x:Str}{ps:List Str}{j k:Nat}{sp:Sp}{p pos:Pos}{e:Expr}{es:List Expr}{t:TA}
theorem Au0 {Ab:List (Addr × Obj)}{σ:St}{H:Hp}{s:Shared}{Q:VK}{us:List Value}{vs:List V}{f:Addr}{fd:FuncData} (F:FnOk X.prog X.w X.K X.mg X.base (CX1 X.prog X.w) k f fd ps sp) (hr:Room k X.A) (hb:Gi X.K fd ps []) (hx:Y0 X J)
 (I:Inv X Ab σ H s) (r:Vals vs us) (h:sp vs H Q (fun cls dx H2=>J cls dx σ H2)):wpAny (model X.prog X.w) X.A (call (.ref f) us) (EP X Ab σ Q) X.xe s:=by
 have hl:us.length=ps.length:=by rw [←r.length];exact F.len _ _ _ _ h
 have hb1:=hb s us I.kIn (by rw [List.append_nil];exact hl)
 rw [List.append_nil] at hb1
 refine wpAny_call (codeAny_mono (F.run X.A X.stack s H ⟨us,[]⟩ us vs Q _ hr I.env0 hb1 r h) fun q s' hq=>?_)
 cases q with
 | error u =>
   obtain⟨e,cls,a0,B,H',dx,rfl,q1,q2,q3,q4,q5,dE,q6⟩:=hq
   exact hx _ _ ⟨e,cls,a0,dx,σ,H',rfl,⟨B,H,s,I.nopin,q1,q2,q3,q4,q5,dE⟩,q6⟩
 | ok fl =>
   cases fl with
   | ret u=>exact I.after hq
   | next=>exact False.elim hq
   | brk=>exact False.elim hq
   | cont=>exact False.elim hq
theorem A94 (hx:Y0 X J) (h:HasX X.prog X.w X.K X.mg X.base x ps j sp) (hr:Room k X.A) (hg:Gl X x) (ha:PA X (e::es) t) (hk:j<=k:=by decide) (hdb:(x==("__debug__":Str))=false:=by decide)
 (he:starEach (e::es) X.env=(false,eval e X.env)::starEach es X.env:=by rfl) (hpl:(backTo pos (starEach es X.env)).any (·.1)=false:=by rfl):PE X (.Call (.Name x p) (e::es) [] pos) (Bo8 sp J t):=by
 intro Ab s σ H Q I hw
 obtain⟨f,fd,h1,h2,h3,h4⟩:=h.ex
 refine wpAny_Call_Name_kw (Jy I hg h1 ?_ hdb)
 refine PySem.W.callWith_K (h₀:=X.base) I.ok.mod.kin h2 (thn (ha pos Ab s σ H _ I hw) fun us s1 ⟨vs,H1,I1,r,q⟩=>⟨I1.kIn,?_⟩) he hpl
 exact Au0 h4 (hr.mono hk) h3 hx I1 r q
end
abbrev bmV:List Value:=[.type "ValueError",.type "Exception",.type "BaseException",.type "object"]
theorem Bi4 {K:W.Frag}{h:Heap}{C:Addr}{bmB:List Value}{nid:String} (X:K.In h) (z:PySem.W.excIn K C bmB nid=true) :
 ∃ bm N nm q bs hdct sn sub ab col dd k0 k1 k2 k3 k5 mN,h.get? C=some (excClassObj nm q C N bs bm hdct sn sub ab col dd k0 k1 k2 k3 k5 nid)/\h.Ns N mN/\mN "__init__"=none/\OwnTail h bmB bm:=by
 unfold PySem.W.excIn at z
 split at z
 case h_2=>cases z
 case h_1 dd cd sl ho =>
  split at z
  case h_2=>cases z
  case h_1 C' bm k0 k1 k2 k3 n k5 hm hs =>
   rw [Bool.and_eq_true,Bool.and_eq_true,Bool.and_eq_true,Bool.and_eq_true,Bool.and_eq_true,beq_iff_eq,beq_iff_eq,Bool.not_eq_true',beq_iff_eq] at z
   obtain⟨⟨⟨⟨⟨z1,z2⟩,z3⟩,z4⟩,z5⟩,z6⟩:=z
   obtain⟨nm,bs,mro,ns,qn,hd,sn,sub,ab,col,del⟩:=cd
   have hm':mro=.ref C'::bm:=hm
   have z3':del=false:=z3
   subst hm' z3' z1 z2
   have hsl:sl=#[k0,k1,k2,k3,some (.builtin n),k5]:=by
    cases sl with
    | mk l =>
      have:l=[k0,k1,k2,k3,some (.builtin n),k5]:=hs
      rw [this]
   subst hsl
   exact ⟨bm,ns,nm,qn,bs,hd,sn,sub,ab,col,dd,k0,k1,k2,k3,k5,_,X _ _ ho,.of_isNs (PySem.W.isNs_of_in X z5),PySem.W.nsMap_none_of_in X z5 z6,PySem.W.tail_of_in X z4⟩
def Bn6 (J:XJ) (C:Addr) (t:TA):TS:=fun _ σ H=>t σ H fun vs H1=>vs.length<=sizeLine/\J (.ref C) none σ H1
theorem P4 {X:Cx}{J:XJ}{C:Addr}{x:Str}{np cpos pos:Pos}{e:Expr}{es:List Expr}{t:TA} (hx:Bu7 X J) (hc:X.calm=true) (hg:Gl X x) (hm:X.mg x=some (.ref C)) (z:PySem.W.excIn X.K C bmV "ValueError.__new__"=true) (ha:PA X (e::es) t)
 (hdb:(x==("__debug__":Str))=false:=by decide) (he:starEach (e::es) X.env=(false,eval e X.env)::starEach es X.env:=by rfl) (hpl:(backTo cpos (starEach es X.env)).any (·.1)=false:=by rfl) :
 PS X (.Raise (some (.Call (.Name x np) (e::es) [] cpos)) none pos) (Bn6 J C t):=by
 intro Ab s σ H D I h
 obtain⟨bm,N,nm,q,bs,hdct,sn,sub,ab,col,dd,k0,k1,k2,k3,k5,mN,hC,hN,hni,T⟩:=Bi4 I.mod.kin z
 have hp2:(backTo cpos (starEach (e::es) X.env)).any (·.1)=false:=by
  rw [he]
  show (false || (backTo cpos (starEach es X.env)).any (·.1))=false
  rw [hpl]
  rfl
 refine wpAny_Raise_call_subT PySem.F.excBase_ValueError (C:=C) (nm:=nm) (q:=q) (N:=N) (bs:=bs) (bm:=bm) (hdct:=hdct) (sn:=sn) (sub:=sub) (ab:=ab) (col:=col) (dd:=dd) (k0:=k0) (k1:=k1) (k2:=k2) (k3:=k3) (k5:=k5) (mN:=mN)
  (T.hasType PySem.F.excBase_ValueError.hasBase) (I.ok.hd hc) hp2 hni (Jy I hg hm ⟨rfl,?_⟩ hdb)
 have a1:=thn (ha cpos Ab s σ H _ I h) (Q':=fun us s2=>(⟨us,[]⟩:Args).kw=[]/\us.length<=sizeLine/\s2.heap.get? C=some (excClassObj nm q C N bs bm hdct sn sub ab col dd k0 k1 k2 k3 k5 "ValueError.__new__")/\s2.heap.Ns N mN/\OwnTail s2.heap bmV bm ∧
  ∀ h' e,Heap.MadeExcOf s2.heap h' e (.ref C) us->X.xe (.ref e) { s2 with heap:=h' }) fun us s2 ⟨vs,H1,I1,r,hl,hj⟩ =>
  ⟨rfl,by rw [←r.length];exact hl,I1.bk _ _ hC,hN.keeps I1.bk,T.keeps I1.bk,fun h' e2 hmk=>hx Ab σ H1 s2 e2 _ _ h' I1 hmk hj⟩
 rw [he] at a1 ⊢
 exact Calls.evalArgs_plain a1
end L2
namespace L2
open PySem PySem.Spec PyProof.Rows PySem.W
section
variable {X:Cx}{Ab pn:List (Addr × Obj)}{σ:St}{H:Hp}{s:Shared}{J:XJ}
abbrev Cx.pinned (X:Cx) (pn:List (Addr × Obj)):Cx:={ X with pn:=X.pn++pn }
theorem Cx.Ok.pinned (ok:X.Ok) (pn:List (Addr × Obj)):(X.pinned pn).Ok :=
 ⟨ok.mod,ok.kind,ok.glob,ok.blt,ok.above,ok.inj,ok.has,ok.cab,ok.hd,ok.frames,ok.stk,ok.exf,ok.bs,ok.bsz,ok.noex,ok.exfs,ok.funs,ok.frf⟩
theorem Cx.Ok.unpinned' (ok:(X.pinned pn).Ok):X.Ok :=
 ⟨ok.mod,ok.kind,ok.glob,ok.blt,ok.above,ok.inj,ok.has,ok.cab,ok.hd,ok.frames,ok.stk,ok.exf,ok.bs,ok.bsz,ok.noex,ok.exfs,ok.funs,ok.frf⟩
theorem Inv.toPn (I:Inv X Ab σ H s):Inv (X.pinned Ab) [] σ H s:=⟨I.ok.pinned _,I.os,I.bare,I.base,I.loc,I.cell,I.free,I.freeC,fun p hp=>I.pin p (by simpa using hp),I.hok,I.len⟩
theorem Inv.ofPn (I:Inv (X.pinned Ab) [] σ H s):Inv X Ab σ H s:=⟨I.ok.unpinned',I.os,I.bare,I.base,I.loc,I.cell,I.free,I.freeC,fun p hp=>I.pin p (by simpa using hp),I.hok,I.len⟩
abbrev Cx.tried (X:Cx) (pn:List (Addr × Obj)) (J:XJ):Cx:=(X.pinned pn).wish (Fly (X.pinned pn) J)
theorem Ih:Y0 (X.tried pn J) J:=fun u s' ⟨e,cls,a0,dx,σ,H',h1,⟨B,H,S,I,q⟩,h3⟩=>⟨e,cls,a0,dx,σ,H',h1,⟨B,H,S,I.unwish,q⟩,h3⟩
abbrev Cx.suite (X:Cx) (e:Addr):Cx:={ X with A:=X.A.mark (some (.ref e)),calm:=false,xe:=fun _ _=>False }
theorem Cx.Ok.suite (ok:X.Ok) (e:Addr):(X.suite e).Ok :=
 ⟨ok.mod,ok.kind,ok.glob,ok.blt,ok.above,ok.inj,ok.has,ok.cab,fun z=>Bool.noConfusion z,ok.frames,ok.stk,ok.exf,ok.bs,ok.bsz,ok.noex,ok.exfs,ok.funs,ok.frf⟩
theorem Inv.suite (I:Inv X Ab σ H s) (e:Addr):Inv (X.suite e) Ab σ H s:=⟨I.ok.suite e,I.os,I.bare,I.base,I.loc,I.cell,I.free,I.freeC,I.pin,I.hok,I.len⟩
theorem Inv.unsuite {e:Addr} (ok:X.Ok) (I:Inv (X.suite e) Ab σ H s):Inv X Ab σ H s:=⟨ok,I.os,I.bare,I.base,I.loc,I.cell,I.free,I.freeC,I.pin,I.hok,I.len⟩
theorem As0 {M:Model}{A:Around}{E:Value->Shared->Prop}{i:Nat}{n:Str}{pos:Pos}{Q:Unit->Shared->Prop} (I:Inv X Ab σ H s) (hN:X.N.Nodup) (hi:X.N[i]?=some n) (hk:X.env.kindOf n=some .local)
 (h:∀ s',Inv X Ab (σ.set i none) H s'->Q () s'):wpAny M A (do bindName X.env n .none;unbindBehindTheSuite X.env n pos) Q E s:=by
 obtain⟨m,hn,hl⟩:=id I.loc
 have hcls:(X.env.scope.kind==.class || (X.env.scope.kind==.module&&X.env.locals != X.env.globals))=false:=by rw [I.ok.kind];rfl
 refine wpAny_nameGoes_keeps hk hn hcls fun h' v hn' hs=>h _ ?_
 have lt:∀ b o,X.s₀.heap.get? b=some o->b≠X.env.locals:=fun b o e=>Nat.ne_of_lt (Nat.lt_of_lt_of_le (Heap.lt_size e) I.ok.above)
 refine⟨I.ok,I.os,I.bare,⟨fun b o e z hb hx=>(hs.2 b (lt b o e)).trans (I.base.keep b o e z hb hx),fun b o e z hb hx=>?_,I.base.free,fun b o e hx=>?_,I.base.tups,I.base.frzs,I.base.tbls⟩,⟨_,hn',fun j y v' e1 e2 e3=>?_⟩,fun y c e=>?_,I.free,I.freeC,fun p hp=>?_,fun b o e=>?_,by simpa using I.len⟩
 . obtain⟨sl,e1⟩:=I.base.slot b o e z hb hx
   exact ⟨sl,(hs.2 b (lt b o e)).trans e1⟩
 . obtain⟨o',e1⟩:=I.base.there b o e hx
   exact ⟨o',(hs.2 b (lt b o e)).trans e1⟩
 . have hj:i≠j:=by
    rintro rfl
    rw [List.getElem?_set] at e2
    simp at e2
   rw [List.getElem?_set_ne hj] at e2
   obtain⟨u,r,q⟩:=hl j y v' e1 e2 e3
   refine⟨u,r,?_⟩
   rcases q with ⟨k,z⟩|⟨k,c,z,w'⟩
   . have:y≠n:=fun z'=>hj (Xy hN hi (z'▸e1))
     exact .inl ⟨k,by simp [this,z]⟩
   . exact .inr ⟨k,c,z,w'.sameBut hs (I.cne y c z)⟩
 . obtain⟨w',z⟩:=I.cell y c e
   exact ⟨w',z.sameBut hs (I.cne y c e)⟩
 . obtain⟨e,z,ne,nf,d⟩:=I.pin p hp
   exact ⟨(hs.2 p.1 ne).trans e,z,ne,nf,d⟩
 . refine (I.hok b o e).stay (fun c w' hc q=>(hs.2 c ?_).trans q) (fun _ q=>q) fun _ _ q=>q
   rintro rfl
   have hf:=I.free
   rcases hc with rfl | hc
   . rw [hf] at e;cases e
   . rw [hf] at hc;cases hc
end
def PH (X:Cx) (hs:List ExceptHandler) (th:Ends->XJ):Prop:=∀ (Ab:List (Addr × Obj)) (s:Shared) (σ:St) (H:Hp) (D:Ends) (e:Addr) (cls a0:Value) (dx:Option Addr),FlyAt X Ab e cls a0 dx σ H s->th D cls dx σ H →
 wpAny (model X.prog X.w) X.A (handleBy (.ref e) X.env hs) (SP X Ab D) X.xe s
def hNo:Ends->XJ:=fun _ _ _ _ _=>False
theorem v6 {X:Cx}:PH X [] hNo:=fun _ _ _ _ _ _ _ _ _ _ h=>h.elim
def Be8 (i:Nat) (D:Ends):Ends:={ nx:=fun σ H=>D.nx (σ.set i none) H,rt:=D.rt,bk:=fun σ H=>D.bk (σ.set i none) H,ct:=fun σ H=>D.ct (σ.set i none) H }
def hAs (K:Frag) (C:Addr) (i:Nat) (ts:TS) (th:Ends->XJ):Ends->XJ:=fun D cls dx σ H=>∃ (C':Addr) (b:Bool),cls=.ref C'/\subIn K (.ref C') (.ref C)=some b ∧
 if b=true then ∀ e,H e=none->ts (Be8 i D) (σ.set i (some (.ref e))) (upd H e (excX e cls dx)) else th D cls dx σ H
theorem A21 {M:Model}{A:Around}{E:Value->Shared->Prop}{nm q:Str}{C C' N:Addr}{bs bm:List Value}{hdct:Bool}{sn:List Str}{sub:List Value}{ab:Bool}{col:Option Bool}{dd:Option Addr}{k0 k1 k2 k3 k5:Option Value}{nid:String}
 {h:Heap}{g:Array GenState}{d:Drawn}{t:Nat}{os:OsState}{e:Addr}{oe:Obj}{b:Bool}{Q:Bool->Shared->Prop} (hC:h.get? C=some (excClassObj nm q C N bs bm hdct sn sub ab col dd k0 k1 k2 k3 k5 nid))
 (he:h.get? e=some oe) (hcls:oe.cls=.ref C') (hbase:bm.contains (.type "BaseException")=true) (LS:Looks M h (isSubtype (.ref C') (.ref C)) b) (hq:Q b ⟨h,g,d,t,os⟩):wpAny M A (excMatches (.ref e) (.ref C)) Q E ⟨h,g,d,t,os⟩:=by
 have hb2:(Value.ref C::bm).contains (.type "BaseException")=true:=by rw [List.contains_cons,hbase,Bool.or_true]
 have tnt:=tc_notTuple
 unfold excMatches
 repeat (first | (with_reducible refine wpAny_loadPart_at he ?_;rw [hcls]) | with_reducible refine wpAny_loadPart_at hC ?_ | (with_reducible refine wpAny_isSubtype_exc hC ?_;rw [hb2]) | with_reducible refine LS.at ?_ | wp_step)
 cases b<;>(wp_walk;exact hq)
section
variable {X:Cx}{th:Ends->XJ}
theorem Bh6 {x n:Str}{i:Nat}{C:Addr}{np hpos:Pos}{b0:Stmt}{bs:List Stmt}{ts:TS}{rest:List ExceptHandler} (hN:X.N.Nodup) (hi:X.N[i]?=some n) (hk:X.env.kindOf n=some .local) (hg:Gl X x) (hm:X.mg x=some (.ref C)) (hC:ktsIn X.K C "BaseException"=true)
 (hs:∀ e,PSs (X.suite e) (b0::bs) ts) (hr:PH X rest th) (hdb:(x==("__debug__":Str))=false:=by decide):PH X (.ExceptHandler (some (.Name x np)) (some n) (b0::bs) hpos::rest) (hAs X.K C i ts th):=by
 intro Ab s σ H D e cls a0 dx F h
 obtain⟨C',b,rfl,hb,h⟩:=h
 have I:=F.inv.1
 obtain⟨nm,qn,N,bs',bm,hdct,sn,sub,ab,col,dd,k0,k1,k2,k3,k5,nid,hCo,hbase,_⟩:=kts_cls I.kIn hC
 have F':=F
 obtain⟨B,H0,S,I0,q1,q2,q3,q4,q5,dE⟩:=F'
 obtain⟨oe,he,hcls⟩:=q5.there
 refine wpAny_handleBy_cons (codeAny_handlers_test (Jy (X:=X.suite e) (I.suite e) hg hm ?_ hdb)) (by intro q;cases q)
 have LS:Looks (model X.prog X.w) s.heap (isSubtype (.ref C') (.ref C)) b:=looks_subIn I.kIn hb
 obtain⟨sh,sg,sd,st,so⟩:=s
 refine A21 hCo he hcls hbase LS ?_
 cases b with
 | false =>
   rw [if_neg Bool.false_ne_true] at h
   exact hr Ab _ σ H D e _ a0 dx F h
 | true =>
   rw [if_pos rfl] at h
   refine codeAny_handlers_suite_as ?_
   refine wpAny_mono (Es (J0 _ _) (lands_againW (E:=fun _ _=>False) (Q:=fun _ s2=>∃ h6,s2={ (⟨sh,sg,sd,st,so⟩:Shared) with heap:=h6 }/\Heap.FlyingW B X.stack e (.ref C') a0 h6/\sh.UpToSlots h6) q5 fun h6 f6 up6=>⟨h6,rfl,f6,up6⟩)) (fun _ s2 ⟨⟨h6,e6,f6,up6⟩,kd⟩=>?_) (fun _ _ z=>z.1.elim)
   subst e6
   have F6:=FlyAt.step I0 q1 q2 q3 q4 q5 f6 up6 (dE.go kd)
   obtain⟨I6,hn⟩:=F6.held
   refine P3 (v:=.ref e) I6 hN hi (.inl hk) rfl (fun s7 I7=>?_) (.inr hk)
   refine wpAny_mono (hs e Ab s7 _ _ (Be8 i D) (I7.suite e) (h e hn)) (fun f s8 q=>?_) fun _ _ z=>z.elim
   have go:∀{σ':St}{H':Hp}{f:Flow},Inv (X.suite e) Ab σ' H' s8->(∀ s9,Inv X Ab (σ'.set i none) H' s9->SP X Ab D f s9)->wpAny (model X.prog X.w) X.A (do bindName X.env n .none;unbindBehindTheSuite X.env n hpos) (fun _ s9=>SP X Ab D f s9) X.xe s8 :=
    fun {σ' H' f} I8 k=>As0 (I8.unsuite I.ok) hN hi hk k
   cases f with
   | next=>obtain⟨σ',H',I8,q⟩:=q;exact go I8 fun s9 I9=>⟨_,H',I9,q⟩
   | brk=>obtain⟨σ',H',I8,q⟩:=q;exact go I8 fun s9 I9=>⟨_,H',I9,q⟩
   | cont=>obtain⟨σ',H',I8,q⟩:=q;exact go I8 fun s9 I9=>⟨_,H',I9,q⟩
   | ret u=>obtain⟨v,σ',H',I8,r,q⟩:=q;exact go I8 fun s9 I9=>⟨v,_,H',I9,r,q⟩
def tTry (tb:XJ->TS) (th:Ends->XJ):TS:=fun D σ H=>tb (th D) D σ H
theorem Au6 {tb:XJ->TS}{body:List Stmt}{h0:ExceptHandler}{hs:List ExceptHandler}{pos:Pos} (hb:∀ pn J,PSs (X.tried pn J) body (tb J)) (hh:PH X (h0::hs) th) (hstk:X.stack=X.env::X.outer:=by rfl) (hfr:X.env.frame=some X.env.locals:=by rfl) :
 PS X (.Try body (h0::hs) [] [] pos) (tTry tb th):=by
 intro Ab s σ H D I h
 refine wpAny_Try_except (wpAny_mono (hb Ab (th D) [] s σ H D (I.toPn.wish _) h) (fun f s1 q=>?_) fun u s1 q=>?_)
 . cases f with
   | next=>obtain⟨σ',H',I',q⟩:=q;exact wpAny_execs_nil ⟨σ',H',I'.unwish.ofPn,q⟩
   | brk=>obtain⟨σ',H',I',q⟩:=q;exact ⟨σ',H',I'.unwish.ofPn,q⟩
   | cont=>obtain⟨σ',H',I',q⟩:=q;exact ⟨σ',H',I'.unwish.ofPn,q⟩
   | ret u=>obtain⟨v,σ',H',I',r,q⟩:=q;exact ⟨v,σ',H',I'.unwish.ofPn,r,q⟩
 . obtain⟨e,cls,a0,dx,σ',H',rfl,⟨B,H1,S,I1,q1,q2,q3,q4,q5,dE⟩,hj⟩:=q
   have q5':Heap.FlyingW B (X.env::X.outer) e cls a0 s1.heap:=hstk▸q5
   refine wpAny_mono (Es (O3 _ _) (wpAny_looks_onW (E:=fun _ _=>False) (Q:=fun _ s2=>∃ h4,s2={ s1 with heap:=h4 }/\Heap.HeldW B (X.env::X.outer) e cls a0 X.env.locals h4/\s1.heap.UpToSlots h4) (L:=X.env.locals) (I.ok.frames.trans (congrArg some hstk)) hfr q5' fun h4 held4 up4=>⟨h4,rfl,held4,up4⟩)) (fun _ s2 ⟨⟨h4,e4,held4,up4⟩,kd4⟩=>?_) (fun _ _ z=>z.1.elim)
   subst e4
   refine wpAny_mono (Es (J0 _ _) (wpAny_landsW (E:=fun _ _=>False) (Q:=fun _ s2=>∃ h5,s2={ s1 with heap:=h5 }/\Heap.FlyingW B (X.env::X.outer) e cls a0 h5/\h4.UpToSlots h5) held4 fun h5 fl5 up5=>⟨h5,rfl,fl5,up5⟩)) (fun _ s2 ⟨⟨h5,e5,fl5,up5⟩,kd5⟩=>?_) (fun _ _ z=>z.1.elim)
   subst e5
   exact hh Ab _ σ' H' D e cls a0 dx (FlyAt.step (s':=s1) I1.ofPn q1 q2 q3 q4 q5 (hstk▸fl5) (up4.trans up5) (dE.go (kd4.trans kd5))) hj
end
structure ExcC (K:Frag) (C:Addr):Prop where
 cls:ktsIn K C "BaseException"=true
 ga:findIn K (.ref C) "__getattribute__"=some (some (.builtin "BaseException.__getattribute__"))
 gt:findIn K (.ref C) "__getattr__"=some none
 cl:findIn K (.ref C) "__class__"=some (some (.builtin "object.__class__"))
 ob:subIn K (.ref C) (.type "object")=some true
 be:subIn K (.ref C) (.type "BaseException")=some true
section
variable {prog:Program}{w:World}{A:Around}{E:Value->Shared->Prop}{h:Heap}{g:Array GenState}{d:Drawn}{t:Nat}{os:OsState}{a C:Addr}{o:Obj}{K:Frag}
theorem A72 {R:Result->Shared->Prop} (X:K.In h) (Z:ExcC K C) (hx:h.get? a=some o) (hc:o.cls=.ref C) (hq:R (.ok (.ret (.ref C))) ⟨h,g,d,t,os⟩) :
 codeAny (model prog w) A (.call (.builtin "getset_descriptor.__get__") ⟨[.builtin "object.__class__",.ref a,.ref C],[]⟩) R ⟨h,g,d,t,os⟩:=by
 have ht:(⟨h,g,d,t,os⟩:Shared).TypeIs (.builtin "object.__class__") "getset_descriptor":=F.typeOf_object_class
 have LS:Looks (model prog w) h (isSubtype (.ref C) (.type (".".intercalate ("object.__class__".cutAt '.').dropLast))) true:=by rw [F.owner_object_class];exact looks_subIn X Z.ob
 refine codeAny_call_builtin F.slot_gs_get.plain F.entry_gs_get (F.slot_gs_get.check _ _ _ _ _ _ _ _ ht (F.args_gs_get _ _ _) ?_)
 repeat (any_goals (first | assumption | (with_reducible refine wpAny_loadPart_at hx ?_;rw [hc]) | with_reducible refine LS.at ?_ | wp_step))
 refine⟨Code.quiet_builtin _ (by decide +kernel),codeAny_builtin F.entry_object_class ?_⟩
 repeat (any_goals (first | assumption | (with_reducible refine wpAny_loadPart_at hx ?_;rw [hc]) | wp_step))
theorem Ah4 {tk:Tok}{Q:PySem.Fin->Shared->Prop} (X:K.In h) (Z:ExcC K C) (hx:h.get? a=some o) (hc:o.cls=.ref C) (hq:Q (.done (.ret (.ref C))) ⟨h,g,d,t,os⟩) :
 wpAny (model prog w) A (Builtin.«object.__getattribute__» ⟨[.ref a,.str "__class__" tk],[]⟩) Q E ⟨h,g,d,t,os⟩:=by
 have ht:(⟨h,g,d,t,os⟩:Shared).TypeIs (.builtin "object.__class__") "getset_descriptor":=F.typeOf_object_class
 have L1:Looks (model prog w) h (typeLookup (.ref C) "__class__") (some (.builtin "object.__class__")):=looks_findIn X Z.cl
 have f5:=F.typeOf_object_class
 have f6:=F.slot_gs_get.lookup
 have f7:=F.slot_gs_set.lookup
 repeat (any_goals (first | assumption | (with_reducible refine wpAny_loadPart_at hx ?_;rw [hc]) | with_reducible refine L1.at ?_ | wp_step))
 refine A72 X Z hx hc ?_
 repeat (any_goals (first | assumption | wp_step))
theorem Ah5 {M:Model}{nameV:Value}{Q:Unit->Shared->Prop} (X:K.In h) (Z:ExcC K C) (hx:h.get? a=some o) (hc:o.cls=.ref C) (hq:Q () ⟨h,g,d,t,os⟩) :
 wpAny M A (checkBuiltinCall "BaseException.__getattribute__" ⟨[.ref a,nameV],[]⟩) Q E ⟨h,g,d,t,os⟩:=by
 have hk:builtinKind "BaseException.__getattribute__"=some .slot:=by decide +kernel
 have hsp:splitId "BaseException.__getattribute__"=some ("BaseException","__getattribute__"):=by decide +kernel
 have LS:Looks M h (isSubtype (.ref C) (.type "BaseException")) true:=looks_subIn X Z.be
 have ha:=F.args_bexc_ga (.ref a) nameV
 simp only [checkBuiltinCall,hk,hsp]
 refine wpAny_bind ?_
 unfold isInstance
 repeat (first | (with_reducible refine wpAny_loadPart_at hx ?_;rw [hc]) | with_reducible refine LS.at ?_ | wp_step)
 exact hq
theorem Ar7 {tk:Tok}{R:Result->Shared->Prop} (X:K.In h) (Z:ExcC K C) (hx:h.get? a=some o) (hc:o.cls=.ref C) (hq:R (.ok (.ret (.ref C))) ⟨h,g,d,t,os⟩) :
 codeAny (model prog w) A (.call (.builtin "BaseException.__getattribute__") ⟨[.ref a,.str "__class__" tk],[]⟩) R ⟨h,g,d,t,os⟩ :=
 codeAny_call_builtin F.attr_ValueError.ga.plain F.entry_bexc_ga (Ah5 X Z hx hc (Ah4 X Z hx hc hq))
theorem Bf3 {tk:Tok}{fill expr:Bool}{Q:Value->Shared->Prop} (X:K.In h) (Z:ExcC K C) (hx:h.get? a=some o) (hc:o.cls=.ref C) (hq:Q (.ref C) ⟨h,g,d,t,os⟩) :
 wpAny (model prog w) A (getAttrBy (.ref a) (.str "__class__" tk) fill expr) Q E ⟨h,g,d,t,os⟩:=by
 have f3:=F.attr_ValueError.ga.bind (.ref a)
 have hx0:(expr&&onTheHeap (Value.builtin "BaseException.__getattribute__"))=false:=by cases expr<;>rfl
 have hx2:(Value.builtin "BaseException.__getattribute__"==Value.builtin "object.__getattribute__")=false:=by decide +kernel
 have hx1:(onTheHeap (Value.ref C)&&Value.builtin "BaseException.__getattribute__"==Value.builtin "object.__getattribute__")=false:=by rw [hx2];rfl
 have L1:Looks (model prog w) h (typeLookup (.ref C) "__getattribute__") (some (.builtin "BaseException.__getattribute__")):=looks_findIn X Z.ga
 have L2':Looks (model prog w) h (typeLookup (.ref C) "__getattr__") none:=looks_findIn X Z.gt
 repeat (any_goals (first | assumption | (with_reducible refine wpAny_loadPart_at hx ?_;rw [hc]) | with_reducible refine L1.at ?_ | with_reducible refine L2'.at ?_ | wp_step))
 refine Ar7 X Z hx hc ?_
 repeat (any_goals (first | assumption | wp_step))
theorem Ar8 {Q:Option Value->Shared->Prop} (X:K.In h) (Z:ExcC K C) (hx:h.get? a=some o) (hc:o.cls=.ref C) (hq:Q (some (.ref C)) ⟨h,g,d,t+1,os⟩):wpAny (model prog w) A (getAttr? (.ref a) "__class__") Q E ⟨h,g,d,t,os⟩:=by
 unfold getAttr? getAttrBy?
 repeat (any_goals (first | assumption | with_reducible apply Bf3 X Z hx hc | wp_step))
theorem Bb3 (Z:ExcC K C):KitX K (.ref a) (.ref C) (fun h=>∃ o,h.get? a=some o/\o.cls=.ref C) where
 ty:=fun M h X ⟨o,e,c⟩=>by
  have:=(Looks.ld (M:=M) (part:=none) e).andThen (f:=fun ob=>pure ob.cls) .now
  rw [c] at this
  exact this
 it:=fun M h X _=>by
  obtain⟨nm,qn,N,bs',bm,hdct,sn,sub,ab,col,dd,k0,k1,k2,k3,k5,nid,hCo,_,_⟩:=kts_cls X Z.cls
  intro A' Q' E' s' k q
  unfold isType loadHead
  exact wpAny_bind (wpAny_loadPart (k _ _ hCo) (wpAny_pure q))
 ne:=fun h tp dd its n sl X htp=>by
  obtain⟨nm,qn,N,bs',bm,hdct,sn,sub,ab,col,dd,k0,k1,k2,k3,k5,nid,hCo,_,_⟩:=kts_cls X Z.cls
  refine Bool.eq_false_iff.mpr fun q=>?_
  have e:C=tp:=Value.ref.inj (beq_iff_eq.mp q)
  subst e
  have z:=congrArg Obj.cls (Option.some.inj (hCo.symm.trans htp))
  have z2:("type":String)="tuple":=by injection z
  exact absurd z2 (by decide)
 ca:=fun {prog w A E Q s} X ⟨o,e,c⟩ k=>by
  obtain⟨sh,sg,sd,st,so⟩:=s
  exact Ar8 X Z e c k
end
section
variable {X:Cx}{K:Frag}
theorem Bp (hK:X.K=K:=by rfl):Hl X (.builtin "isinstance") (fun xs H Q=>∃ (e C:Addr) (y:V) (c:Value) (b:Bool),xs=[.ref e,y]/\RelV y c/\(∀ u,RelV y u->u=c)/\H e=some (excO e (.ref C))/\ExcC K C/\kitOne K (.ref C) c=some b/\Q (.bl b) H):=by
 subst hK
 intro Ab s σ H xs us Q I r h
 obtain⟨e,C,y,c,b,rfl,_,hy,hH,Z,kk,q⟩:=h
 obtain⟨u,v,rfl,rx,rt⟩:=Ah6 r
 cases rx
 cases hy v rt
 have ho:=I.hok e _ hH
 obtain⟨⟨o,vs,e1,c1,_⟩,_⟩:=ho
 exact kia_one (Bb3 Z) I.kIn ⟨o,e1,c1⟩ kk (fun z=>nomatch z) fun tk=>⟨.bl b,H,I.tok tk,rfl,q⟩
theorem Cq {D:Addr}:∀ u,RelV (.ref D) u->u=.ref D:=fun u h=>h
theorem Bf4 {n:String}:∀ u,RelV (.ty n) u->u=.type n:=fun u h=>h
end
end L2
namespace L2
open PySem PySem.Spec PyProof.Rows
def Ite (K:W.Frag) (a:Addr):It :=
 ⟨fun i H=>∃ xs x,SqL K H a xs/\xs[i]?=some x,fun i H x H'=>∃ p v,H p=none/\x=.ref p/\H'=upd H p (.tup [.int i,v])/\∀ xs,SqL K H a xs->xs[i]?=some v,fun i H=>∃ xs,SqL K H a xs/\xs.length<=i⟩
theorem As3 {P:Program}{w:World}{K:W.Frag}{es:List Expr}{x1:Nat}{tpos:Pos} (a e it:Addr) (hne:e≠it):Turn P w K (.Tuple es x1 tpos) (Ite K a) [e,it] e (fun i h=>(∃ old,IsEnum h e it (i:Int) old)/\h.IsListIter it a i) where
 mem:=by simp
 obj:=fun i h st b hb=>by
  obtain⟨⟨old,h1⟩,o,h2,c,d⟩:=st
  rcases List.mem_cons.mp hb with rfl | hb
  . exact ⟨_,h1,fun v z=>by cases (show Data.fields _=Data.cell v from z)⟩
  . have z:b=it:=by simpa using hb
    subst z
    exact ⟨o,h2,fun v z=>by rw [d] at z;cases z⟩
 keep:=fun i h h' st k=>by
  obtain⟨⟨old,h1⟩,h2⟩:=st
  exact ⟨⟨old,k e (by simp) _ h1⟩,h2.at fun o z=>k it (by simp) o z⟩
 item:=by
  intro X hP hw hK hc i Ab s σ H E I hf st hg
  subst hP hw hK
  obtain⟨⟨old,h1⟩,h2⟩:=st
  obtain⟨xs,x,hq,hx⟩:=hg
  obtain⟨its,rv,p,hz⟩:=I.list hq
  obtain⟨u,hu,ru⟩:=rv.get hx
  have fe:=hf e (by simp)
  have fi:=hf it (by simp)
  have lte:e<s.heap.objs.size:=Heap.lt_size h1
  have hfresh:H s.heap.objs.size=none:=I.hok.fresh (Nat.le_refl _)
  refine wpAny_pyNext_enum_item h1 h2 p.isList (x:=u) (by simpa using hu) hne fun h' hout hit' htup hsz hk=>?_
  refine⟨_,rfl,wpAny_letOwnedTupleGo_enum hout fun h3 hen hsb=>?_⟩
  replace hsb:Heap.SameBut e h' h3:=hsb
  have kk:∀ b o,b≠e->b≠it->s.heap.get? b=some o->h3.get? b=some o:=fun b o n1 n2 z=>(hsb.2 b n1).trans (hk b o n1 n2 z)
  have ht3:h3.get? s.heap.objs.size=some { cls:=.type "tuple",data:=.seq #[.int i s.toks,u] }:=(hsb.2 _ (Nat.ne_of_gt lte)).trans htup
  have hi3:h3.IsListIter it a (i+1):=hit'.at fun o z=>(hsb.2 it hne.symm).trans z
  have nch:∀ b,b ∉ [e,it]->b≠e/\b≠it:=fun b hb=>by simpa using hb
  have ntr:∀ b v,H b=some v->b≠e/\b≠it:=fun b v z=>⟨A8 z fe.1,A8 z fi.1⟩
  have nsz:∀ b v,H b=some v->b≠s.heap.objs.size:=fun b v z=>A8 z hfresh
  refine⟨.ref s.heap.objs.size,upd H s.heap.objs.size (.tup [.int i,x]),?_,rfl,⟨s.heap.objs.size,x,hfresh,rfl,rfl,fun ys hy=>by rw [I.list_inj hy hq];exact hx⟩,⟨⟨_,hen⟩,hi3⟩,fun b hb=>?_⟩
  . refine Inv.step (s:=s) (h':=h3) (t':=s.toks+1) (H':=upd H s.heap.objs.size (.tup [.int i,x])) I (g':=s.gens) (d':=s.drawn) (ch:=[e,it]) (fun b hb=>?_) (fun b o _ _ hb z _=>kk b o (nch b hb).1 (nch b hb).2 z) (fun b o _ _ hb z _=>⟨o.slots,kk b o (nch b hb).1 (nch b hb).2 z⟩) (fun b o hb z n=>?_) (fun b o hb z=>⟨o,kk b o (nch b hb).1 (nch b hb).2 z⟩)
     (fun b ys z=>by rw [An (nsz b _ z)];exact z) (fun b o v z=>by rw [An (nsz b _ z)];exact z) (fun b ps z=>⟨#[],by rw [An (nsz b _ z),z];simp⟩) (fun m hm=>?_) (fun b v z=>?_) I.bare
    . rcases List.mem_cons.mp hb with rfl | hb
      . exact ⟨fe.2.2.2.1,fe.2.1,fe.2.2.2.2.1,fe.2.2.2.2.2⟩
      . have z:b=it:=by simpa using hb
        subst z
        exact ⟨fi.2.2.2.1,fi.2.1,fi.2.2.2.2.1,fi.2.2.2.2.2⟩
    . rw [An (Nat.ne_of_lt (Heap.lt_size z))]
      exact n
    . obtain⟨o,es',ep,ho,r⟩:=hm
      exact ⟨o,es',ep,kk _ o fe.2.1.symm fi.2.1.symm ho,r⟩
    . by_cases hb:b=s.heap.objs.size
      . subst hb
        rw [Ae] at z
        cases z
        exact ⟨(by show (2:Nat)<=sizeLine;decide),[.int i s.toks,u],.cons ⟨_,rfl⟩ (.cons ru .nil),⟨_,ht3,rfl,rfl,_,rfl⟩⟩
      . rw [An hb] at z
        refine (I.hok b v z).stay (fun c y hc' q=>?_) (fun c q=>by rw [An (nsz c _ q)];exact q) fun c ys q=>by rw [An (nsz c _ q)];exact q
        rcases hc' with rfl | hc'
        . exact kk _ _ (ntr _ _ z).1 (ntr _ _ z).2 q
        . exact kk _ _ (ntr _ _ hc').1 (ntr _ _ hc').2 q
  . have lb:b<s.heap.objs.size:=by
     rcases List.mem_cons.mp hb with rfl | hb
     . exact lte
     . have z:b=it:=by simpa using hb
       subst z
       obtain⟨o,z,_⟩:=h2
       exact Heap.lt_size z
    rw [An (Nat.ne_of_lt lb)]
    exact (hf b hb).1
 done:=by
  intro X hP hw hK hc i Ab s σ H E I hf st hg
  subst hP hw hK
  obtain⟨⟨old,h1⟩,h2⟩:=st
  obtain⟨xs,hq,hx⟩:=hg
  obtain⟨its,rv,p,hz⟩:=I.list hq
  obtain⟨f0,f1,f2,f3,f4,f5⟩:=hf it (by simp)
  have hl:=rv.length
  exact wpAny_pyNext_enum_end (I.ok.hd hc) h1 h2 p.isList (by simp;omega) fun h' eb=>⟨rfl,I.turned (t':=s.toks) (fun b o hb z=>eb b o hb z) f0 f1 f3 f4 f5⟩
 self:=fun _ _ _ _ _ st h=>by
  obtain⟨⟨old,h1⟩,h2⟩:=st
  exact wpAny_pyIter_enum h1 h
def Bw8 (K:W.Frag) (ta:TA):TI:=fun σ H R=>ta σ H fun vs H1=>∃ a,vs=[.ref a]/\(∃ xs,SqL K H1 a xs)/\R (Ite K a) H1
theorem Tk:bootBuiltins "enumerate"=some (.type "enumerate"):=by decide +kernel
theorem Bh5 {X:Cx}{K:W.Frag}{es:List Expr}{x1:Nat}{tpos:Pos}{a:Expr}{ta:TA}{p pos:Pos} (hg:Gl X "enumerate") (hm:X.mg "enumerate"=none) (ha:PA X [a] ta) (hK:X.K=K:=by rfl) (hs:starEach [a] X.env=[(false,eval a X.env)]:=by rfl):PI X (.Tuple es x1 tpos) (.Call (.Name "enumerate" p) [a] [] pos) (Bw8 K ta):=by
 subst hK
 intro Ab s σ H R I h
 refine Call_ (O2 I hg hm Tk (PyProof.Rows.callWith_type1 (thn (ha pos Ab s σ H _ I h) fun us s1 ⟨vs,H1,I1,r1,q1⟩=>?_) hs rfl))
 obtain⟨l,e,⟨xs,hq⟩,q⟩:=q1
 subst e
 cases r1 with
 | cons r rr =>
   cases rr
   cases r
   obtain⟨its,rv,pl,hz⟩:=I1.list hq
   refine call_enumerate_list pl.isList fun h' hen hit hsz hk=>?_
   refine wpAny_pyIter_enum hen ⟨s1.heap.objs.size+1,[s1.heap.objs.size+1,s1.heap.objs.size],_,_,H1,rfl,I1.kept (t':=s1.toks) hk,As3 l _ _ (Nat.succ_ne_self _),⟨⟨_,hen⟩,hit⟩,fun b hb=>?_,q⟩
   have lb:s1.heap.objs.size<=b:=by
    rcases List.mem_cons.mp hb with rfl | hb
    . exact Nat.le_succ _
    . have z:b=s1.heap.objs.size:=by simpa using hb
      rw [z]
      exact Nat.le_refl _
   exact I1.fpOk lb (I1.hok.fresh lb)
section
variable {g:TG}{tc:TT}{te:TE}{D:Addr}{Q:Hp->Prop}{τ:St}{H:Hp}
theorem A47 {K:W.Frag}{a:Addr}{xs:List V} (Pv:Nat->List V->St->Hp->Prop) (h0:Pv 0 [] τ H) (hl:∀ i ys τ H,i<=xs.length->Pv i ys τ H->SqL K H a xs)
 (hs:∀ i x ys τ H p,xs[i]?=some x->Pv i ys τ H->H p=none->g (.ref p) τ (upd H p (.tup [.int i,x])) fun τ2 H2=>tc τ2 H2 fun b H3=>if b=true then te τ2 H3 fun y H4=>H4 D=some (.lst ys)/\ys.length<sizeLine/\Pv (i+1) (ys++[y]) τ2 (upd H4 D (.lst (ys++[y]))) else Pv (i+1) ys τ2 H3)
 (hd:∀ ys τ H,Pv xs.length ys τ H->Q H):RunC (Ite K a) g tc te D Q τ H:=by
 refine⟨fun i m ys τ H=>m=xs.length-i/\i<=xs.length/\Pv i ys τ H,⟨xs.length,by simp,Nat.zero_le _,h0⟩,?_⟩
 rintro i m ys τ H ⟨rfl,hi,pp⟩
 have q:=hl i ys τ H hi pp
 by_cases hlt:i<xs.length
 . refine .inr ⟨⟨xs,xs[i],q,by simp [hlt]⟩,Pv (i+1),fun ys' τ' H' p'=>⟨xs.length-(i+1),by omega,rfl,hlt,p'⟩,fun x H' y=>?_⟩
   obtain⟨p,v,hp,rfl,rfl,y⟩:=y
   exact hs i v ys τ _ p (y xs q) pp hp
 . have e:i=xs.length:=by omega
   subst e
   exact .inl ⟨⟨xs,q,Nat.le_refl _⟩,hd ys τ H pp⟩
end
end L2
namespace L2
open PySem PySem.Spec PyProof.Rows
theorem Inv.turnedN {X:Cx}{Ab:List (Addr × Obj)}{σ:St}{H:Hp}{s:Shared}{h':Heap}{t':Nat}{fp:List Addr} (I:Inv X Ab σ H s) (k:∀ b o,b ∉ fp->s.heap.get? b=some o->h'.get? b=some o) (hf:∀ b∈fp,FpOk X Ab H b) :
 Inv X Ab σ H { s with heap:=h',toks:=t' }:=by
 have ntr:∀ c o,H c=some o->c ∉ fp:=fun c o e hm=>by rw [(hf c hm).1] at e;cases e
 refine I.step (g':=s.gens) (d':=s.drawn) (ch:=fp) (fun b hb=>?_) (fun b o _ _ hc e _=>k b o hc e) (fun b o _ _ hc e _=>⟨o.slots,k b o hc e⟩) (fun _ _ _ _ n=>n)
  (fun b o hc e=>⟨o,k b o hc e⟩) (fun _ _ e=>e) (fun _ _ _ e=>e) (fun b ps e=>⟨#[],by rw [e];simp⟩) (fun m hm=>?_) (fun b u e=>?_) I.bare
 . have f:=hf b hb
   exact ⟨f.2.2.2.1,f.2.1,f.2.2.2.2.1,f.2.2.2.2.2⟩
 . obtain⟨o,es',ep,ho,r⟩:=hm
   exact ⟨o,es',ep,k _ o (fun z=>(hf _ z).2.1 rfl) ho,r⟩
 . refine (I.hok b u e).stay (fun c y hc' q=>?_) (fun c q=>q) fun c ys q=>q
   rcases hc' with rfl | hc'
   . exact k _ _ (ntr _ _ e) q
   . exact k _ _ (ntr _ _ hc') q
section
variable {g:TG}{tc:TT}{te:TE}{D:Addr}{Q:Hp->Prop}{τ:St}{H:Hp}
end
theorem op_mulX {X:Cx}:OpR X (binaryOp .Mult) (rI IntMulOk fun i j=>.int (i*j)):=opI fun _ _ _ _ _ _ _ hc q=>mul_int q hc
theorem O1 {i j:Int} (h1:-(2 ^ 64)<i) (h2:i<2 ^ 64):IntMulOk i j:=CMul.ok (.inl ⟨h1,h2⟩)
theorem Ay4 {i j:Int} (h1:-(2 ^ 64)<j) (h2:j<2 ^ 64):IntMulOk i j:=CMul.ok (.inr ⟨h1,h2⟩)
end L2
namespace L2
open PySem PySem.W PySem.Calls PyProof.Rows
end L2
namespace L2
open PySem PySem.Spec PyProof.Rows
section
variable {X:Cx}{Ab:List (Addr × Obj)}{σ:St}{H:Hp}{s:Shared}{a:Addr}{kvs:List (Key × V)}
theorem Inv.freeze (I:Inv X Ab σ H s) (e:H a=some (.dK kvs)):∃ o,Inv X Ab σ (upd H a (.frz o (.dK kvs))) s:=by
 obtain⟨z,y,vs,r,o,es,ep,ho,c⟩:=id (I.hok a _ e)
 refine⟨o,?_⟩
 have ne:∀ b u,H b=some u->u≠.dK kvs->b≠a:=fun b u q n z=>by rw [z,e] at q;exact n (Option.some.inj q).symm
 have up:∀ b u,H b=some u->u≠.dK kvs->upd H a (.frz o (.dK kvs)) b=some u:=fun b u q n=>by rw [An (ne b u q n)];exact q
 refine I.step (g':=s.gens) (t':=s.toks) (d':=s.drawn) (h':=s.heap) (H':=upd H a (.frz o (.dK kvs))) (ch:=[]) (fun _ q=>nomatch q) (fun b ob _ _ _ q _=>q) (fun b ob _ _ _ q _=>⟨ob.slots,q⟩) (fun b ob _ q n=>by rw [An (fun z=>by rw [z,e] at n;cases n)];exact n) (fun b ob _ q=>⟨ob,q⟩)
  (fun b xs q=>up b _ q (by intro z;cases z)) (fun b ob u q=>up b _ q (by intro z;cases z)) (fun b ps q=>⟨#[],by rw [up b _ q (by intro z;cases z)];simp⟩) (fun m q=>q) (fun b u q=>?_) I.bare
 by_cases hb:b=a
 . subst hb
   rw [Ae] at q
   cases q
   exact ⟨ho,(I.hok b _ e).stay (fun _ _ _ q=>q) (fun c q=>up c _ q (by intro z;cases z)) fun c xs q=>up c _ q (by intro z;cases z)⟩
 . rw [An hb] at q
   exact (I.hok b u q).stay (fun _ _ _ q=>q) (fun c q=>up c _ q (by intro z;cases z)) fun c xs q=>up c _ q (by intro z;cases z)
theorem Inv.thaw {o:Obj} (I:Inv X Ab σ H s) (e:H a=some (.frz o (.dK kvs))) (hb:∀ ob u,X.H₀ a≠some (.frz ob u)):Inv X Ab σ (upd H a (.dK kvs)) s:=by
 have ne:∀ b u,H b=some u->u≠.frz o (.dK kvs)->b≠a:=fun b u q n z=>by rw [z,e] at q;exact n (Option.some.inj q).symm
 have up:∀ b u,H b=some u->u≠.frz o (.dK kvs)->upd H a (.dK kvs) b=some u:=fun b u q n=>by rw [An (ne b u q n)];exact q
 have no:∀ b,H b=none->upd H a (.dK kvs) b=none:=fun b n=>by rw [An (fun z=>by rw [z,e] at n;cases n)];exact n
 refine⟨I.ok,I.os,I.bare,⟨I.base.keep,I.base.slot,fun b ob q n x=>no b (I.base.free b ob q n x),I.base.there,fun b xs q=>up b _ (I.base.tups b xs q) (by intro z;cases z),fun b ob u q=>?_,fun b ps q=>?_⟩,I.loc,I.cell,no _ I.free,fun x c q=>no _ (I.freeC x c q),fun p hp=>?_,fun b u q=>?_,I.len⟩
 . have hne:b≠a:=fun z=>hb ob u (z▸q)
   rw [An hne]
   exact I.base.frzs b ob u q
 . obtain⟨m,q'⟩:=I.base.tbls b ps q
   exact ⟨m,up b _ q' (by intro z;cases z)⟩
 . obtain⟨p1,p2,p3⟩:=I.pin p hp
   exact ⟨p1,no _ p2,p3⟩
 . by_cases hba:b=a
   . subst hba
     rw [Ae] at q
     cases q
     obtain⟨_,q'⟩:=I.hok b _ e
     exact q'.stay (fun _ _ _ q=>q) (fun c q=>up c _ q (by intro z;cases z)) fun c xs q=>up c _ q (by intro z;cases z)
   . rw [An hba] at q
     exact (I.hok b u q).stay (fun _ _ _ q=>q) (fun c q=>up c _ q (by intro z;cases z)) fun c xs q=>up c _ q (by intro z;cases z)
theorem Inv.notfrz (I:Inv X Ab σ H s) (e:H a=some (.dK kvs)):∀ ob u,X.H₀ a≠some (.frz ob u):=fun ob u q=>by
 have:=I.base.frzs a ob u q
 rw [e] at this
 cases this
theorem Inv.nodupK (I:Inv X Ab σ H s) (e:Rd H a (.dK kvs)):(kvs.map (·.1)).Nodup:=by
 obtain⟨z,hd,vs,rel,o,es,ep,_,_,_,_,_,hn⟩:=Pt I.hok e
 rw [rel.keys]
 exact hn
end
def tFrz (t:TE):TE:=fun σ H Q=>t σ H Q\/∃ (a:Addr) (kvs:List (Key × V)),H a=some (.dK kvs)/\((kvs.map (·.1)).Nodup->∀ o:Obj,t σ (upd H a (.frz o (.dK kvs))) fun v H'=>H' a=some (.frz o (.dK kvs))/\Q v (upd H' a (.dK kvs)))
def sFrz (t:TS):TS:=fun D σ H=>t D σ H\/∃ (a:Addr) (kvs:List (Key × V)),H a=some (.dK kvs)/\((kvs.map (·.1)).Nodup->∀ o:Obj,t ⟨fun σ' H'=>H' a=some (.frz o (.dK kvs))/\D.nx σ' (upd H' a (.dK kvs)),fun v H'=>H' a=some (.frz o (.dK kvs))/\D.rt v (upd H' a (.dK kvs)),
 fun σ' H'=>H' a=some (.frz o (.dK kvs))/\D.bk σ' (upd H' a (.dK kvs)),fun σ' H'=>H' a=some (.frz o (.dK kvs))/\D.ct σ' (upd H' a (.dK kvs))⟩ σ (upd H a (.frz o (.dK kvs))))
theorem Bd4 {X:Cx}{e:Expr}{t:TE} (h:PE X e t):PE X e (tFrz t):=by
 intro Ab s σ H Q I hw
 rcases hw with hw|⟨a,kvs,ea,hw⟩
 . exact h Ab s σ H Q I hw
 . obtain⟨o,I'⟩:=I.freeze ea
   have hb:=I.notfrz ea
   refine thn (h Ab s σ _ _ I' (hw (I.nodupK (.inl ea)) o)) fun u s' ⟨v,H',I2,r,e2,q⟩=>⟨v,_,I2.thaw e2 hb,r,q⟩
theorem Bp6 {X:Cx}{st:Stmt}{t:TS} (h:PS X st t):PS X st (sFrz t):=by
 intro Ab s σ H D I hw
 rcases hw with hw|⟨a,kvs,ea,hw⟩
 . exact h Ab s σ H D I hw
 . obtain⟨o,I'⟩:=I.freeze ea
   have hb:=I.notfrz ea
   refine thn (h Ab s σ _ _ I' (hw (I.nodupK (.inl ea)) o)) fun f s' hq=>?_
   cases f with
   | next=>obtain⟨σ',H',I2,e2,q⟩:=hq;exact ⟨σ',_,I2.thaw e2 hb,q⟩
   | brk=>obtain⟨σ',H',I2,e2,q⟩:=hq;exact ⟨σ',_,I2.thaw e2 hb,q⟩
   | cont=>obtain⟨σ',H',I2,e2,q⟩:=hq;exact ⟨σ',_,I2.thaw e2 hb,q⟩
   | ret u=>obtain⟨v,σ',H',I2,r,e2,q⟩:=hq;exact ⟨v,σ',_,I2.thaw e2 hb,r,q⟩
theorem A14 {X:Cx}{Ab:List (Addr × Obj)}{σ:St}{H:Hp}{s:Shared}{a:Addr}{kvs:List (Key × V)}{o:Obj} (I:Inv X Ab σ H s) (e:H a=some (.frz o (.dK kvs))) :
 s.heap.get? a=some o/\(a==sysModules)=false/\kvs.length<=sizeLine/\∃ vs es ep,KV kvs vs/\o.data=.dict es ep/\es.size=kvs.length/\o.ExactDict/\s.heap.DictAt (mixKind X.prog X.w) a vs ep:=by
 obtain⟨ho,z,y,vs,r,o',es,ep,ho',ex,hd,hk,hp,hn⟩:=I.hok a _ e
 rw [ho] at ho'
 cases ho'
 refine⟨ho,y,z,vs,es,ep,r,hd,?_,ex,⟨o,es,ho,ex,hd,hk,hp,hn⟩⟩
 rw [r.length,←hp.length]
 simp
theorem KV.getV:∀{kvs:List (Key × V)}{vs:List (Key × Value)}{i:Nat}{k:Key}{v:V},KV kvs vs->kvs[i]?=some (k,v)->∃ u,vs[i]?=some (k,u)/\RelV v u
 | _,_,i,k,v,.nil,e=>by simp at e
 | _,_,0,k,v,.cons (b:=q) r t,e=>by
   simp only [List.getElem?_cons_zero,Option.some.injEq] at e
   subst e
   obtain⟨k',u⟩:=q
   have e1:k=k':=r.1
   subst e1
   exact ⟨u,by simp,r.2⟩
 | _,_,i+1,k,v,.cons r t,e=>by
   obtain⟨u,e1,e2⟩:=KV.getV (i:=i) t (by simpa using e)
   exact ⟨u,by simpa using e1,e2⟩
theorem Bt3 {P:Program}{w:World}{k:Key}{u:Value} (h:(mixKind P w).is k u=true):RelV (kV k) u:=by
 rcases Ch h with ⟨i,t,rfl,rfl⟩|⟨x,t,rfl,rfl⟩
 . exact ⟨t,rfl⟩
 . exact ⟨t,rfl⟩
def Itm (d:Addr) (o:Obj):It :=
 ⟨fun i H=>∃ kvs k v,H d=some (.frz o (.dK kvs))/\kvs[i]?=some (k,v),
  fun i H x H'=>∃ p k v,H p=none/\x=.ref p/\H'=upd H p (.tup [kV k,v])/\∀ kvs,H d=some (.frz o (.dK kvs))->kvs[i]?=some (k,v),
  fun i H=>∃ kvs,H d=some (.frz o (.dK kvs))/\kvs.length<=i⟩
theorem Q4 {prog:Program}{w:World}{A:Around}{E:Value->Shared->Prop}{s:Shared}{it d:Addr}{i n ep:Nat}{ok ov:Value}{Q:Value->Shared->Prop} (hit:IsItemIter s.heap it d i n ep ok ov) (h:Q (.ref it) s):wpAny (model prog w) A (pyIter (.ref it)) Q E s:=by
 have hT:s.TypeIs (.ref it) "dict_itemiterator":=⟨_,hit,rfl⟩
 refine wpAny_pyIter_slot hT PySem.F.slot_dict_itemiterator_iter (wpAny_call_entry PySem.F.slot_dict_itemiterator_iter hT (entryFor_alias (id':="dict_keyiterator.__iter__") (by kernel_rfl) rfl (by decide +kernel) (by kernel_rfl):entryFor table "dict_itemiterator.__iter__"=some Builtin.«dict_keyiterator.__iter__») ?_ (PySem.F.args_dict_itemiterator_iter_1 _))
 show wpAny _ _ (ret (.ref it)) _ _ s
 exact wpAny_pure ⟨_,rfl,"dict_itemiterator",_,hT,PySem.F.slot_dict_itemiterator_next.lookup,h⟩
theorem Ah9 {P:Program}{w:World}{K:W.Frag}{tes:List Expr}{x1:Nat}{tpos:Pos} (d it:Addr) (o:Obj) {es:Array DictEntry}{ep:Nat} (hd:o.data=.dict es ep) :
 Turn P w K (.Tuple tes x1 tpos) (Itm d o) [it] it (fun i h=>∃ ok ov,IsItemIter h it d i es.size ep ok ov) where
 mem:=by simp
 obj:=fun i h st b hb=>by
  obtain⟨ok,ov,h1⟩:=st
  have z:b=it:=by simpa using hb
  subst z
  exact ⟨_,h1,fun v q=>by cases (show Data.fields _=Data.cell v from q)⟩
 keep:=fun i h h' st k=>by
  obtain⟨ok,ov,h1⟩:=st
  exact ⟨ok,ov,k it (by simp) _ h1⟩
 item:=by
  intro X hP hw hK hc i Ab s σ H E I hf st hg
  subst hP hw hK
  obtain⟨ok,ov,hit⟩:=st
  obtain⟨kvs,k,v,hz,hx⟩:=hg
  obtain⟨ho,hsys,hl,vs,es',ep',rel,hd',hsz,ex,hm⟩:=A14 I hz
  rw [hd] at hd'
  cases hd'
  obtain⟨u,hu,ru⟩:=rel.getV hx
  have hn:es.size=vs.length:=by rw [hsz,rel.length]
  have fi:=hf it (by simp)
  have lti:it<s.heap.objs.size:=Heap.lt_size hit
  have hfresh:H s.heap.objs.size=none:=I.hok.fresh (Nat.le_refl _)
  rw [hn] at hit
  refine wpAny_pyNext_items_item hit hm hu fun key h' hkey hout htup hsz' hk=>?_
  refine⟨_,rfl,wpAny_letOwnedTupleGo_items hout fun h3 hen hsb=>?_⟩
  replace hsb:Heap.SameBut it h' h3:=hsb
  have kk:∀ b ob,b ∉ [it]->s.heap.get? b=some ob->h3.get? b=some ob:=fun b ob n z=>by
   have n1:b≠it:=by simpa using n
   exact (hsb.2 b n1).trans (hk b ob n1 z)
  have ht3:h3.get? s.heap.objs.size=some { cls:=.type "tuple",data:=.seq #[key,u] }:=(hsb.2 _ (Nat.ne_of_gt lti)).trans htup
  have ntr:∀ c ob,H c=some ob->c ∉ [it]:=fun c ob e hm=>by rw [(hf c hm).1] at e;cases e
  have nsz:∀ b ob,H b=some ob->b≠s.heap.objs.size:=fun b ob z=>A8 z hfresh
  refine⟨.ref s.heap.objs.size,upd H s.heap.objs.size (.tup [kV k,v]),?_,rfl,⟨s.heap.objs.size,k,v,hfresh,rfl,rfl,fun kvs' q=>by rw [hz] at q;cases q;exact hx⟩,⟨_,_,by rw [hn];exact hen⟩,fun b hb=>?_⟩
  . refine Inv.step (s:=s) (h':=h3) (t':=s.toks) (H':=upd H s.heap.objs.size (.tup [kV k,v])) I (g':=s.gens) (d':=s.drawn) (ch:=[it]) (fun b hb=>?_) (fun b ob _ _ hb z _=>kk b ob hb z) (fun b ob _ _ hb z _=>⟨ob.slots,kk b ob hb z⟩) (fun b ob hb z n=>?_) (fun b ob hb z=>⟨ob,kk b ob hb z⟩)
     (fun b ys z=>by rw [An (nsz b _ z)];exact z) (fun b ob w' z=>by rw [An (nsz b _ z)];exact z) (fun b ps z=>⟨#[],by rw [An (nsz b _ z),z];simp⟩) (fun m hm=>?_) (fun b w' z=>?_) I.bare
    . have f:=hf b hb
      exact ⟨f.2.2.2.1,f.2.1,f.2.2.2.2.1,f.2.2.2.2.2⟩
    . rw [An (Nat.ne_of_lt (Heap.lt_size z))]
      exact n
    . obtain⟨ob,es',ep',hob,r⟩:=hm
      exact ⟨ob,es',ep',kk _ ob (fun q=>(hf _ q).2.1 rfl) hob,r⟩
    . by_cases hb:b=s.heap.objs.size
      . subst hb
        rw [Ae] at z
        cases z
        exact ⟨(by show (2:Nat)<=sizeLine;decide),[key,u],.cons (Bt3 hkey) (.cons ru .nil),⟨_,ht3,rfl,rfl,_,rfl⟩⟩
      . rw [An hb] at z
        refine (I.hok b w' z).stay (fun c y hc' q=>?_) (fun c q=>by rw [An (nsz c _ q)];exact q) fun c ys q=>by rw [An (nsz c _ q)];exact q
        rcases hc' with rfl | hc'
        . exact kk _ _ (ntr _ _ z) q
        . exact kk _ _ (ntr _ _ hc') q
  . have z:b=it:=by simpa using hb
    subst z
    rw [An (Nat.ne_of_lt lti)]
    exact (hf b hb).1
 done:=by
  intro X hP hw hK hc i Ab s σ H E I hf st hg
  subst hP hw hK
  obtain⟨ok,ov,hit⟩:=st
  obtain⟨kvs,hz,hx⟩:=hg
  obtain⟨ho,hsys,hl,vs,es',ep',rel,hd',hsz,ex,hm⟩:=A14 I hz
  rw [hd] at hd'
  cases hd'
  have hn:es.size=vs.length:=by rw [hsz,rel.length]
  have hl2:=rel.length
  rw [hn] at hit
  exact wpAny_pyNext_items_end (I.ok.hd hc) hit hm (by simp;omega) fun h' eb=>⟨rfl,I.turnedN (t':=s.toks) (fp:=[it]) (fun b ob hb z=>eb b ob (by simpa using hb) z) hf⟩
 self:=fun _ _ _ _ _ st h=>by
  obtain⟨ok,ov,hit⟩:=st
  exact Q4 hit h
def Bt7 (td:TE):TI:=fun σ H R=>td σ H fun x H1=>∃ d o kvs,x=.ref d/\H1 d=some (.frz o (.dK kvs))/\R (Itm d o) H1
theorem Xj {X:Cx}{tes:List Expr}{x1:Nat}{tpos apos cpos:Pos}{e:Expr}{td:TE} (he:PE X e td)
 (hbase:attributeBase e "items" X.env (eval e X.env)=eval e X.env:=by rfl) (hline:(apos.endLine==cpos.line)=true:=by rfl):PI X (.Tuple tes x1 tpos) (.Call (.Attribute e "items" apos) [] [] cpos) (Bt7 td):=by
 intro Ab s σ H R I h
 refine wpAny_Call_method0_late hbase hline (thn (he Ab s σ H _ I h) fun v s1 ⟨x,H1,I1,r1,d,o,kvs,ex,hz,q⟩=>?_)
 subst ex
 obtain rfl:v=Value.ref d:=r1
 obtain⟨ho,hsys,hl,vs,es,ep,rel,hd,hsz,exd,hm⟩:=A14 I1 hz
 refine⟨"dict","dict.items",PySem.F.plainAttrs_dict,PySem.F.slot_dict_items,PySem.F.type_dict_items,⟨o,ho,exd.1⟩,fun b e=>by cases e;exact ⟨o,ho,exd.2.1⟩,Calls.callWith_builtin rfl (PySem.evalArgs_none ?_)⟩
 refine call_meetsIn PySem.F.slot_dict_items hm.dictOf.typeIs PySem.F.entry_dict_items (PySem.F.args_dict_items_1 _) (meets_dict_items (mixKind X.prog X.w) d hsys) ⟨⟨vs,hm.dictOf⟩,?_⟩
 have I2:Inv X Ab σ H1 { s1 with heap:=s1.heap.push { cls:=.type "dict_items",data:=.fields #[.ref d] } }:=I1.kept (t':=s1.toks) fun b ob z=>Heap.get?_push_of_some _ z
 have hm2:=hm.push { cls:=.type "dict_items",data:=.fields #[.ref d] }
 refine wpAny_pyIter_items (s:={ s1 with heap:=s1.heap.push { cls:=.type "dict_items",data:=.fields #[.ref d] } }) (v:=s1.heap.objs.size) (d:=d) ⟨_,Heap.get?_push_size _ rfl,rfl,rfl⟩ hm2 ?_
 have hsz2:(s1.heap.push { cls:=.type "dict_items",data:=.fields #[.ref d] }).objs.size=s1.heap.objs.size+1:=Heap.size_push ..
 refine⟨_,[_],_,Itm d o,H1,rfl,I2.kept (t':=s1.toks) fun b ob z=>Heap.get?_push_of_some _ z,Ah9 d _ o hd,⟨.none,.none,?_⟩,fun b hb=>?_,q⟩
 . rw [hsz,rel.length]
   exact Heap.get?_push_size _ rfl
 . have z:b=(s1.heap.push { cls:=.type "dict_items",data:=.fields #[.ref d] }).objs.size:=by simpa using hb
   subst z
   exact I2.fpOk (Nat.le_refl _) (I2.hok.fresh (Nat.le_refl _))
section
variable {g:TG}{tc:TT}{te:TE}{D:Addr}{Q:Hp->Prop}{τ:St}{H:Hp}
theorem V0 {d:Addr}{o:Obj}{kvs:List (Key × V)} (Pv:Nat->List V->St->Hp->Prop) (h0:Pv 0 [] τ H) (hl:∀ i zs τ H,i<=kvs.length->Pv i zs τ H->H d=some (.frz o (.dK kvs)))
 (hs:∀ i k v zs τ H p,kvs[i]?=some (k,v)->Pv i zs τ H->H p=none->g (.ref p) τ (upd H p (.tup [kV k,v])) fun τ2 H2=>tc τ2 H2 fun b H3=>if b=true then te τ2 H3 fun y H4=>H4 D=some (.lst zs)/\zs.length<sizeLine/\Pv (i+1) (zs++[y]) τ2 (upd H4 D (.lst (zs++[y]))) else Pv (i+1) zs τ2 H3)
 (hd:∀ zs τ H,Pv kvs.length zs τ H->Q H):RunC (Itm d o) g tc te D Q τ H:=by
 refine⟨fun i m zs τ H=>m=kvs.length-i/\i<=kvs.length/\Pv i zs τ H,⟨kvs.length,by simp,Nat.zero_le _,h0⟩,?_⟩
 rintro i m zs τ H ⟨rfl,hi,pp⟩
 have q:=hl i zs τ H hi pp
 by_cases hlt:i<kvs.length
 . refine .inr ⟨⟨kvs,kvs[i].1,kvs[i].2,q,by simp [hlt]⟩,Pv (i+1),fun ys' τ' H' p'=>⟨kvs.length-(i+1),by omega,rfl,hlt,p'⟩,fun x H' y=>?_⟩
   obtain⟨p,k,v,hp,rfl,rfl,y⟩:=y
   exact hs i k v zs τ _ p (y kvs q) pp hp
 . have e:i=kvs.length:=by omega
   subst e
   exact .inl ⟨⟨kvs,q,Nat.le_refl _⟩,hd zs τ H pp⟩
theorem A16 {d:Addr}{o:Obj}{kvs:List (Key × V)}{g:TG}{tb:TS}{D:Ends}{σ:St}{H:Hp} (Pv:Nat->St->Hp->Prop) (h0:Pv 0 σ H) (hl:∀ i σ H,i<=kvs.length->Pv i σ H->H d=some (.frz o (.dK kvs)))
 (hs:∀ i k v σ H p,kvs[i]?=some (k,v)->Pv i σ H->H p=none->g (.ref p) σ (upd H p (.tup [kV k,v])) fun σ2 H2=>tb { D with nx:=Pv (i+1),ct:=Pv (i+1),bk:=D.nx } σ2 H2) (hd:∀ σ H,Pv kvs.length σ H->D.nx σ H) :
 ∃ W:Nat->Nat->St->Hp->Prop,(∃ m,W 0 m σ H)/\∀ i m σ H,W i m σ H →
   ((Itm d o).stop i H/\D.nx σ H)\/((Itm d o).go i H/\∃ N:St->Hp->Prop,(∀ σ' H',N σ' H'->∃ m',m'<m/\W (i+1) m' σ' H')/\∀ x H',(Itm d o).yld i H x H'->g x σ H' fun σ2 H2=>tb { D with nx:=N,ct:=N,bk:=D.nx } σ2 H2):=by
 refine⟨fun i m σ H=>m=kvs.length-i/\i<=kvs.length/\Pv i σ H,⟨kvs.length,by simp,Nat.zero_le _,h0⟩,?_⟩
 rintro i m σ H ⟨rfl,hi,pp⟩
 have q:=hl i σ H hi pp
 by_cases hlt:i<kvs.length
 . refine .inr ⟨⟨kvs,kvs[i].1,kvs[i].2,q,by simp [hlt]⟩,Pv (i+1),fun σ' H' p'=>⟨kvs.length-(i+1),by omega,rfl,hlt,p'⟩,fun x H' y=>?_⟩
   obtain⟨p,k,v,hp,rfl,rfl,y⟩:=y
   exact hs i k v σ _ p (y kvs q) pp hp
 . have e:i=kvs.length:=by omega
   subst e
   exact .inl ⟨⟨kvs,q,Nat.le_refl _⟩,hd σ H pp⟩
end
end L2
namespace L2
open PySem PySem.Spec PyProof.Rows PySem.SeqAt
theorem Xz {ms:List (Int × Int)}:((cK ms).map (·.1)).Nodup↔(ms.map (·.1)).Nodup:=by
 unfold cK List.Nodup
 rw [List.map_map,List.pairwise_map,List.pairwise_map]
 constructor
 . intro h;exact h.imp fun {a b} n z=>n (by simp [z])
 . intro h;exact h.imp fun {a b} n z=>n (by simpa using z)
section
variable {X:Cx}{Ab:List (Addr × Obj)}{σ:St}{H:Hp}{s:Shared}{a:Addr}{ms:List (Int × Int)}
end
section
variable {X:Cx}{n:Nat}{K:W.Frag}
theorem Ad5:Hl X (.builtin "isinstance") (fun xs H Q=>∃ a kvs,xs=[.ref a,.ty "dict"]/\Rd H a (.dK kvs)/\Q (.bl true) H):=by
 intro Ab s σ H xs us Q I r h
 obtain⟨a,kvs,rfl,e,q⟩:=h
 obtain⟨u,v,rfl,rx,rt⟩:=Ah6 r
 cases rt
 cases rx
 obtain⟨z,hd,vs,rel,o,es,ep,ho,ex,_⟩:=Pt I.hok e
 exact PySem.IsiPair.dict_dict ho ex.1 ⟨.bl true,H,I,rfl,q⟩
end
end L2
namespace L2
open PySem PySem.Spec PyProof.Rows
theorem Wb {X:Cx}:Hl X (.type "dict") (fun xs H Q=>∃ a kvs,xs=[.ref a]/\Rd H a (.dK kvs)/\∀ p,H p=none->Q (.ref p) (upd H p (.dK kvs))):=by
 intro Ab s σ H xs us Q I r h
 obtain⟨a,kvs,rfl,e,q⟩:=h
 obtain⟨u,rfl,rx⟩:=Y2 r
 cases rx
 exact Bc0 I e fun p s' hp I'=>⟨.ref p,_,I',rfl,q p hp⟩
theorem u1 {n c:Nat} (h:n+8<c):n+1<c:=by omega
def getI (ms:List (Int × Int)) (k:Int):Int:=(lookI ms k).getD 0
def putI (ms:List (Int × Int)) (k v:Int):List (Int × Int):=if (ms.any fun p=>decide (p.1=k))=true then ms.map (fun p=>if p.1=k then (p.1,v) else p) else ms++[(k,v)]
def Ss (ms:List (Int × Int)) (k:Int):List (Int × Int):=ms.filter fun p=>decide (p.1≠k)
theorem Bu4 (ms:List (Int × Int)) (k v:Int):putK (cK ms) (Sum.inl k) (V.int v)=cK (putI ms k v):=by
 unfold putK putI cK
 have e:((ms.map fun p=>((Sum.inl p.1:Key),V.int p.2)).any fun kv=>decide (kv.1=Sum.inl k))=(ms.any fun p=>decide (p.1=k)):=by
  rw [List.any_map]
  congr 1
  funext p
  simp
 rw [e]
 split
 . rw [List.map_map,List.map_map]
   congr 1
   funext p
   simp only [Function.comp]
   by_cases q:p.1=k
   . simp [q]
   . have q':¬(Sum.inl p.1:Key)=Sum.inl k:=fun z=>q (by simpa using z)
     simp [q]
 . simp
theorem Bm8 (ms:List (Int × Int)) (k:Int):b9 (cK ms) (Sum.inl k)=cK (Ss ms k):=by
 unfold b9 Ss cK
 rw [List.filter_map]
 congr 1
 congr 1
 funext p
 simp
theorem Wc (ms:List (Int × Int)) (k:Int):valV (cK ms) (Sum.inl k)=(lookI ms k).map V.int:=by
 unfold lookI cK valV
 rw [List.find?_map,Option.map_map,Option.map_map]
 have e:((fun p:Key × V=>decide (p.1=Sum.inl k)) ∘ fun p:Int × Int=>((Sum.inl p.1:Key),V.int p.2))=fun p:Int × Int=>decide (p.1=k):=by
  funext p
  simp
 rw [e]
 rfl
theorem Bm7 (ms:List (Int × Int)) (k:Int):((lookI ms k).map V.int).getD (V.int 0)=V.int (getI ms k):=by
 unfold getI
 cases lookI ms k<;>rfl
theorem Cb (p:Int × Int) (ms:List (Int × Int)) (k:Int):lookI (p::ms) k=if p.1=k then some p.2 else lookI ms k:=by
 unfold lookI
 by_cases q:p.1=k
 . rw [List.find?_cons_of_pos (by simpa using q),if_pos q];rfl
 . rw [List.find?_cons_of_neg (by simpa using q),if_neg q]
theorem Zu (ms:List (Int × Int)) (k v j:Int):lookI (putI ms k v) j=if j=k then some v else lookI ms j:=by
 have hs:∀ (ns:List (Int × Int)),lookI (ns.map (fun p=>if p.1=k then (p.1,v) else p)) j=if j=k then (lookI ns j).map (fun _=>v) else lookI ns j:=by
  intro ns
  induction ns with
  | nil=>simp [lookI]
  | cons p ns ih =>
    rw [List.map_cons,Cb,Cb,ih]
    by_cases e1:p.1=k
    . by_cases e2:j=k
      . simp [e1,e2]
      . have e3:¬k=j:=fun z=>e2 z.symm
        simp [e1,e2,e3]
    . by_cases e2:j=k
      . simp [e1,e2]
      . simp [e1,e2]
 have hn:∀ (ns:List (Int × Int)),(ns.any fun p=>decide (p.1=k))=(lookI ns k).isSome:=by
  intro ns
  induction ns with
  | nil=>rfl
  | cons p ns ih =>
    rw [List.any_cons,Cb,ih]
    by_cases e1:p.1=k<;>simp [e1]
 have ha:∀ (ns:List (Int × Int)),lookI (ns++[(k,v)]) j=(lookI ns j).or (if k=j then some v else none):=by
  intro ns
  induction ns with
  | nil=>simp [Cb,lookI]
  | cons p ns ih =>
    rw [List.cons_append,Cb,Cb,ih]
    by_cases e1:p.1=j<;>simp [e1]
 unfold putI
 rw [hn]
 cases q:lookI ms k with
 | some z =>
   simp only [Option.isSome_some,if_true]
   rw [hs]
   by_cases e:j=k
   . subst e;simp [q]
   . simp [e]
 | none =>
   simp only [Option.isSome_none,Bool.false_eq_true,if_false]
   rw [ha]
   by_cases e:j=k
   . subst e;simp [q]
   . have e':¬k=j:=fun z=>e z.symm
     simp [e,e']
theorem An3 (ms:List (Int × Int)) (k j:Int):lookI (Ss ms k) j=if j=k then none else lookI ms j:=by
 unfold Ss
 induction ms with
 | nil=>simp [lookI]
 | cons p ms ih =>
   rw [List.filter_cons,Cb]
   by_cases e1:p.1=k
   . rw [if_neg (by simpa using e1),ih]
     by_cases e2:j=k
     . simp [e2]
     . have e3:¬p.1=j:=fun z=>e2 (by rw [←z,e1])
       simp [e2,e3]
   . rw [if_pos (by simpa using e1),Cb,ih]
     by_cases e2:j=k
     . subst e2;simp [e1]
     . simp [e2]
end L2
namespace L2
open PySem PySem.Spec PyProof.Rows
inductive DA where
 | d (d:D) | dic
def RepA (K:W.Frag) (H:Hp) (v:V):DA->Prop
 | .d d=>Rep K H v d
 | .dic=>∃ a kvs,v=.ref a/\Rd H a (.dK kvs)
def isA (n:String):DA->Bool
 | .d d=>isD n d
 | .dic=>n=="dict"
theorem A54 {X:Cx}{K:W.Frag} (hK:X.K=K:=by rfl):Hl X (.builtin "isinstance") (fun xs H Q=>∃ x n d,xs=[x,.ty n]/\(n="int"\/n="bool"\/n="str"\/n="tuple"\/n="list"\/n="dict")/\RepA K H x d/\Q (.bl (isA n d)) H):=by
 subst hK
 intro Ab s σ H xs us Q I r h
 obtain⟨x,n,d,e,hn,hx,q⟩:=h
 cases d with
 | d d=>exact Ti Ab s σ H xs us Q I r ⟨x,n,d,e,hn,hx,q⟩
 | dic =>
   subst e
   obtain⟨a,kvs,rfl,hr⟩:=hx
   obtain⟨u,v,rfl,rx,rt⟩:=Ah6 r
   cases rt
   cases rx
   obtain⟨z,hd,vs,rel,o,es,ep,ho,ex,_⟩:=Pt I.hok hr
   rcases hn with rfl | rfl | rfl | rfl | rfl | rfl
   . exact PySem.IsiPair.dict_int ho ex.1 ⟨.bl false,H,I.tok _,rfl,q⟩
   . exact PySem.IsiPair.dict_bool ho ex.1 ⟨.bl false,H,I.tok _,rfl,q⟩
   . exact PySem.IsiPair.dict_str ho ex.1 ⟨.bl false,H,I.tok _,rfl,q⟩
   . exact PySem.IsiPair.dict_tuple ho ex.1 ⟨.bl false,H,I.tok _,rfl,q⟩
   . exact PySem.IsiPair.dict_list ho ex.1 ⟨.bl false,H,I.tok _,rfl,q⟩
   . exact PySem.IsiPair.dict_dict ho ex.1 ⟨.bl true,H,I,rfl,q⟩
end L2
namespace L2
open PySem PySem.Spec PyProof.Rows
structure P0 (k:Nat) (A:Around):Prop where
 dp:A.depth+3*k+5<recursionLimit
 un:A.units+16*k+200<cLine
theorem P0.mono {j k:Nat}{A:Around} (r:P0 k A) (h:j<=k):P0 j A:=⟨by have:=r.dp;omega,by have:=r.un;omega⟩
theorem P0.deeper {k:Nat}{A:Around} (r:P0 (k+1) A) (env:Env):P0 k (A.deeper env) :=
 ⟨by have:=r.dp;show A.depth+1+3*k+5<_;omega,by have:=r.un;show A.units+3+16*k+200<_;omega⟩
theorem P0.depth {k:Nat}{A:Around} (r:P0 k A):A.depth<recursionLimit:=by have:=r.dp;omega
theorem Room.n {k:Nat}{A:Around}{v:Option Value} (r:Room k A):P0 k (A.mark v):=⟨r.dp,r.un⟩
structure Bn3 (P:Program) (w:World) (K:W.Frag) (mg:Str->Option Value) (base:Heap) (k:Nat) (f:Addr) (fd:FuncData) (ps:List Str) (sp:Sp):Prop where
 len:∀ vs H Q E,sp vs H Q E->vs.length=ps.length
 run:∀ (A:Around) (outer:List Env) (s:Shared) (H:Hp) (args:Args) (us:List Value) (vs:List V) (Q:VK) (E:XK),P0 k A->Env0 P w K mg base A outer s H->BindsTo s fd args (ps.zip us)->Vals vs us->sp vs H Q E →
  codeAny (model P w) A (.call (.ref f) args) (CR CX0 outer P w H s Q E) s
abbrev cxN (P:Program) (w:World) (K:W.Frag) (mg:Str->Option Value) (base:Heap) (N:List Str) (qual:Str) (scope:Scope) (f:Addr) (cd:Value) (A:Around) (outer:List Env) (s:Shared) (H:Hp) (E:XK):Cx :=
 { cxOf CX0 P w K mg base N qual scope f cd A outer s H E with calm:=false,xe:=fun _ _=>False }
section
variable {P:Program}{w:World}{K:W.Frag}{mg:Str->Option Value}{base:Heap}
theorem Ao4 {N ps:List Str}{qual:Str}{scope:Scope}{f:Addr}{cd:Value}{A:Around}{outer:List Env}{s s1:Shared}{H:Hp}{E:XK}{us:List Value}{vs:List V}
 (S:FnScope N ps scope) (e0:Env0 P w K mg base A outer s H) (hl:vs.length=ps.length) (r:Vals vs us)
 (x:InCallC s s.heap.objs.size (bindL (envOfC qual scope s.heap.objs.size f cd).kindOf (ps.zip us) fun _=>none) (cellsFrom (s.heap.objs.size+1) scope.names []) (bindC (envOfC qual scope s.heap.objs.size f cd).kindOf (ps.zip us) fun _=>none) s1) :
 Inv (cxN P w K mg base N qual scope f cd A outer s H E) [] (start N vs) H s1:=by
 have e1:Env0 P w K mg base ({ A with handled:=none }) outer s H:=⟨e0.frames,e0.mod,e0.bs,e0.bsz,e0.funs,e0.frf,e0.hok,e0.bare⟩
 have I:=Z8 (CX:=CX0) (E:=E) (A:={ A with handled:=none }) (cd:=cd) (f:=f) (qual:=qual) S rfl e1 hl r x
 exact ⟨⟨I.ok.mod,I.ok.kind,I.ok.glob,I.ok.blt,I.ok.above,I.ok.inj,I.ok.has,I.ok.cab,fun z=>Bool.noConfusion z,Around.frames_deeper e0.frames,I.ok.stk,I.ok.exf,I.ok.bs,I.ok.bsz,I.ok.noex,I.ok.exfs,I.ok.funs,I.ok.frf⟩,I.os,I.bare,I.base,I.loc,I.cell,I.free,I.freeC,I.pin,I.hok,I.len⟩
theorem Fun.okN {x qual:Str}{st:Stmt}{f:Addr}{fd:FuncData}{N ps:List Str}{k:Nat}{sp:Sp} (F:Fun K x qual st f fd) (S:FnScope N ps (Aj st)) (len:∀ vs H Q E,sp vs H Q E->vs.length=ps.length)
 (hbody:∀ (Bw:Value) (A:Around) (outer:List Env) (s:Shared) (H:Hp) (vs:List V) (Q:VK) (E:XK),P0 k (A.deeper (envOfC qual (Aj st) s.heap.objs.size f Bw))->sp vs H Q E →
   ∃ t,PSs (cxN P w K mg base N qual (Aj st) f Bw A outer s H E) (Ba st) t/\t { nx:=fun _ H'=>Q .non H',rt:=Q } (start N vs) H):Bn3 P w K mg base (k+1) f fd ps sp:=by
 obtain⟨oc,od,kV,doc,pm,an,Bw,ct,osl,rfl,lk,hcd⟩:=F.ex
 refine⟨len,fun A outer s H args us vs Q E hr e0 hb r hsp=>?_⟩
 have hl:=len _ _ _ _ hsp
 have KX:K.In s.heap:=e0.mod.kin.keeps fun b o e=>(e0.bs b o e).1
 have lim:s.heap.NoLimit:=e0.mod.nolimit.keeps fun b o e=>(e0.bs b o e).1
 have hkind:∀ y∈ps.zip us,(Aj st).names.lookup y.1=some .local\/((Aj st).names.lookup y.1=some .cell/\((cellsFrom (s.heap.objs.size+1) (Aj st).names []).lookup y.1).isSome=true):=fun ⟨n,v⟩ hy=>by
  rcases S.par n (List.of_mem_zip hy).1 with q | q
  . exact .inl q
  . exact .inr ⟨q,PySem.W.cellsFrom_some _ _ _ (.inl q)⟩
 refine codeAny_call_function hr.depth (KX _ _ lk) rfl S.co S.gen rfl (PySem.W.codeRec_of KX hcd) (hb _ _ _ _ ?_)
 refine wpAny_newFunctionEnv_cells S.kind hkind fun env he s1 x=>?_
 subst he
 refine⟨lim.keeps x.toInCall.keep,codeAny_func ?_⟩
 obtain⟨t,ht,hq⟩:=hbody Bw A outer s H vs Q E (hr.deeper _) hsp
 have I:Inv (cxN P w K mg base N qual (Aj st) f Bw A outer s H E) [] (start N vs) H s1:=Ao4 S e0 hl r x
 refine wpAny_mono (ht [] s1 (start N vs) H _ I hq) (fun fl s' hs=>?_) fun e s' hs=>hs.elim
 have fin:∀{σ':St}{H':Hp}{v:V}{u:Value},Inv (cxN P w K mg base N qual (Aj st) f Bw A outer s H E) [] σ' H' s'->RelV v u->Q v H'->CE outer P w H s Q u s' :=
  fun {σ' H' v u} J rv q=>⟨v,H',J.os,J.bare,J.base,J.hok,rv,q⟩
 cases fl with
 | ret u =>
   obtain⟨v,σ',H',J,rv,q⟩:=hs
   exact fin J rv q
 | next =>
   obtain⟨σ',H',J,q⟩:=hs
   exact fin (v:=V.non) (u:=Value.none) J rfl q
 | brk =>
   obtain⟨_,_,_,q⟩:=hs
   exact False.elim q
 | cont =>
   obtain⟨_,_,_,q⟩:=hs
   exact False.elim q
end
structure HasN (P:Program) (w:World) (K:W.Frag) (mg:Str->Option Value) (base:Heap) (x:Str) (ps:List Str) (k:Nat) (sp:Sp):Prop where
 ex:∃ (f:Addr) (fd:FuncData),mg x=some (.ref f)/\PySem.W.keepIn K (.ref f)=true/\Gi K fd ps []/\Bn3 P w K mg base k f fd ps sp
section
variable {X:Cx}{x:Str}{ps:List Str}{j k:Nat}{sp:Sp}{p pos:Pos}{e:Expr}{es:List Expr}{t:TA}
theorem Py:bootBuiltins "ValueError"=some (.type "ValueError"):=by decide +kernel
theorem Xl (h:HasN X.prog X.w X.K X.mg X.base x ps j sp) (hr:P0 k X.A) (hg:Gl X x) (ha:PA X (e::es) t) (hk:j<=k:=by decide) (hdb:(x==("__debug__":Str))=false:=by decide)
 (he:starEach (e::es) X.env=(false,eval e X.env)::starEach es X.env:=by rfl) (hpl:(backTo pos (starEach es X.env)).any (·.1)=false:=by rfl):PE X (.Call (.Name x p) (e::es) [] pos) (tCall sp [] E0 t):=by
 intro Ab s σ H Q I h1
 obtain⟨f,fd,hm,hkp,hb,F⟩:=h.ex
 refine wpAny_Call_Name_kw (Jy I hg hm ?_ hdb)
 refine PySem.W.callWith_K (h₀:=X.base) I.ok.mod.kin hkp (thn (ha pos Ab s σ H _ I h1) fun us s1 ⟨vs,H1,I1,r,q⟩=>⟨I1.kIn,?_⟩) he hpl
 have q':sp vs H1 Q E0:=by have:sp (vs++[]) H1 Q E0:=q;rwa [List.append_nil] at this
 have hl:us.length=ps.length:=by rw [←r.length];exact F.len _ _ _ _ q'
 have hb1:=hb s1 us I1.kIn (by rw [List.append_nil];exact hl)
 rw [List.append_nil] at hb1
 refine wpAny_call (codeAny_mono (F.run X.A X.stack s1 H1 ⟨us,[]⟩ us vs Q _ (hr.mono hk) I1.env0 hb1 r q') fun q s' hq=>?_)
 cases q with
 | error u=>exact False.elim hq
 | ok fl =>
   cases fl with
   | ret u=>exact I1.after hq
   | next=>exact False.elim hq
   | brk=>exact False.elim hq
   | cont=>exact False.elim hq
end
end L2
namespace L2
open PySem PySem.Spec PyProof.Rows
mutual
def toPD:D->PyData
 | .non=>.none
 | .bl b=>.bool b
 | .int i=>.int i
 | .str x=>.str x
 | .tup ds=>.tuple (toPDs ds)
 | .lst ds=>.list (toPDs ds)
def toPDs:List D->List PyData
 | []=>[]
 | d::ds=>toPD d::toPDs ds
end
section
variable {X:Cx}{Ab:List (Addr × Obj)}{σ:St}{H:Hp}{s:Shared}
mutual
theorem A80 (I:Inv X Ab σ H s):∀ (d:D) {v:V}{u:Value},Rep X.K H v d->RelV v u->∃ as,Reads s.heap u (toPD d) as
 | .non,v,u,h,r=>by
   cases (show v=.non from h)
   obtain rfl:u=.none:=r
   exact ⟨_,.none⟩
 | .bl b,v,u,h,r=>by
   cases (show v=.bl b from h)
   obtain rfl:u=.bool b:=r
   exact ⟨_,.bool b⟩
 | .int i,v,u,h,r=>by
   cases (show v=.int i from h)
   obtain⟨t,rfl⟩:=r
   exact ⟨_,.int i t⟩
 | .str x,v,u,h,r=>by
   cases (show v=.str x from h)
   obtain⟨t,rfl⟩:=r
   exact ⟨_,.str x t⟩
 | .tup ds,v,u,h,r=>by
   obtain⟨a,vs,rfl,hq,hr⟩:=h
   obtain rfl:u=.ref a:=r
   obtain⟨its,rv,p,hz⟩:=I.tuple hq
   obtain⟨o,ho,hc,n,hd⟩:=(show s.heap.IsTuple a its.toArray from p)
   obtain⟨as,ra⟩:=readsAll_of I ds hr rv
   exact ⟨as,.tuple ho hc hd (by simpa using ra)⟩
 | .lst ds,v,u,h,r=>by
   obtain⟨a,vs,rfl,hq,hr⟩:=h
   obtain rfl:u=.ref a:=r
   obtain⟨its,rv,p,hz⟩:=I.list hq
   obtain⟨o,ho,hc,n,hd⟩:=p.isList
   obtain⟨as,ra⟩:=readsAll_of I ds hr rv
   exact ⟨a::as,.list ho hc hd (by simpa using ra)⟩
theorem readsAll_of (I:Inv X Ab σ H s):∀ (ds:List D) {vs:List V}{us:List Value},Reps X.K H vs ds->Vals vs us->∃ as,ReadsAll s.heap us (toPDs ds) as
 | [],vs,us,h,r=>by
   cases (show vs=[] from h)
   cases r
   exact ⟨_,.nil⟩
 | d::ds,vs,us,h,r=>by
   obtain⟨v,q,rfl,hv,hq⟩:=h
   cases r with
   | cons r1 r2 =>
     obtain⟨as,ra⟩:=A80 I d hv r1
     obtain⟨bs,rb⟩:=readsAll_of I ds hq r2
     exact ⟨_,.cons ra rb⟩
end
end
mutual
theorem a9:∀ d:D,(toPD d).hasDict=false
 | .non=>rfl
 | .bl _=>rfl
 | .int _=>rfl
 | .str _=>rfl
 | .tup ds=>hasDict_toPDs ds
 | .lst ds=>hasDict_toPDs ds
theorem hasDict_toPDs:∀ ds:List D,PyData.hasDictAll (toPDs ds)=false
 | []=>rfl
 | d::ds=>by
   show ((toPD d).hasDict || PyData.hasDictAll (toPDs ds))=false
   rw [a9 d,hasDict_toPDs ds]
   rfl
end
end L2
namespace L2
open PySem PySem.Spec PyProof.Rows
inductive DE where
 | d (d:D) | nul
inductive TH where
 | one (e:DE) | rows (es:List DE)
def RepE (K:W.Frag) (H:Hp) (v:V):DE->Prop
 | .d d=>Rep K H v d
 | .nul=>∃ a,v=.ref a/\Rd H a (.dK [])
def Bu5 (K:W.Frag) (H:Hp):List V->List DE->Prop
 | [],[]=>True
 | v::vs,e::es=>RepE K H v e/\Bu5 K H vs es
 | _,_=>False
def RepT (K:W.Frag) (H:Hp) (v:V):TH->Prop
 | .one e=>RepE K H v e
 | .rows es=>∃ a vs,v=.ref a/\SqL K H a vs/\Bu5 K H vs es
def isE (n:String):DE->Bool
 | .d d=>isD n d
 | .nul=>n=="dict"
def isT (n:String):TH->Bool
 | .one e=>isE n e
 | .rows _=>n=="list"
theorem RepE.same {K:W.Frag}{H H':Hp}{v:V}{d:DE} (s:Same H H') (h:RepE K H v d):RepE K H' v d:=by
 cases d with
 | d d=>exact Rep.same s h
 | nul =>
   obtain⟨a,e,hr⟩:=h
   refine⟨a,e,?_⟩
   rcases hr with hr|⟨o,hr⟩
   . exact .inl (s _ _ hr)
   . exact .inr ⟨o,s _ _ hr⟩
section
variable {X:Cx}{K:W.Frag}
theorem Hf (hK:X.K=K:=by rfl):Hl X (.builtin "isinstance") (fun xs H Q=>∃ x n t,xs=[x,.ty n]/\(n="int"\/n="bool"\/n="str"\/n="tuple"\/n="list"\/n="dict")/\RepT K H x t/\Q (.bl (isT n t)) H):=by
 subst hK
 intro Ab s σ H xs us Q I r h
 obtain⟨x,n,t,e,hn,hx,q⟩:=h
 match t,hx,q with
 | .one (.d d),hx,q=>exact Ti Ab s σ H xs us Q I r ⟨x,n,d,e,hn,hx,q⟩
 | .one .nul,hx,q =>
   obtain⟨a,e2,hr⟩:=hx
   exact A54 (K:=X.K) rfl Ab s σ H xs us Q I r ⟨x,n,.dic,e,hn,⟨a,[],e2,hr⟩,q⟩
 | .rows es,hx,q =>
   subst e
   obtain⟨a,vs,rfl,hq,_⟩:=hx
   obtain⟨u,v,rfl,rx,rt⟩:=Ah6 r
   cases rt
   cases rx
   obtain⟨its,_,⟨o,_,e,c,_⟩,_⟩:=I.list hq
   have k:=Be1 (K:=X.K) (d:=.lst []) hn
   exact PySem.W.kia_one PySem.W.kitx_list I.kIn ⟨o,e,c⟩ k (fun z=>nomatch z) fun tk=>⟨.bl (n=="list"),H,I.tok tk,rfl,q⟩
end
section
variable {X:Cx}{Ab:List (Addr × Obj)}{σ:St}{H:Hp}{s:Shared}
end
structure Fin (B k:Nat) (p:PyData):Prop where
 sh:p.showable=true
 le:p.shown.length<=B
 dp:p.depth<=k
end L2
namespace L2
open PySem PySem.Spec PyProof.Rows
section
variable {prog:Program}{w:World}{A:Around}{E:Value->Shared->Prop}
end
end L2
namespace L2
open PySem PySem.Spec PyProof.Rows
section
variable {prog:Program}{w:World}{A:Around}{R:Result->Shared->Prop}
end
end L2
namespace L2
open PySem PySem.Spec PyProof.Rows
end L2
namespace L2
open PySem PySem.Spec PyProof.Rows
end L2
namespace L2
open PySem PySem.Spec PyProof.Rows
theorem A58 (a:Value):argsOk "max" ⟨[a],[]⟩:=by unfold argsOk;kernel_rfl
section
variable {prog:Program}{w:World}{A:Around}{R:Result->Shared->Prop}
theorem Ay8 {I S:Addr}{fp:List Addr}{n:Nat}{P:Nat->Value->Prop}{St:Nat->Heap->Prop} (W:Walks prog w A.in1 I fp [I] n P St) (hSf:S ∉ fp) (hSI:S≠I) (ks:List Int) (hn:ks.length=n) (hn0:0<n) (hP:∀ i v,P i v->∃ x t,ks[i]?=some x/\v=.int x t) :
 ∀ (k i:Nat) (s:Shared) (c:Nat) (best:Array Value),n-i=k->i<=n->St i s.heap->s.heap.get? S=some { cls:=.type "list",dict:=none,data:=.seq best c,slots:=#[] } →
 ((i=0/\best=#[])\/∃ m t,best=#[.int m t,.int m t]/\0<i/\m∈ks.take i/\∀ x∈ks.take i,x<=m) →
 (∀ m t h' tk,m∈ks->(∀ x∈ks,x<=m)->(∀ b o,b≠I->b≠S->s.heap.get? b=some o->h'.get? b=some o)->R (.ok (.ret (.int m t))) { s with heap:=h',toks:=tk }) →
 codeAny (model prog w) A (.builtin "max.loop" ⟨[.ref I,.none,.ref S],[]⟩) R s:=by
 have hname:(toString "max"++toString ".loop":String)="max.loop":=by decide
 intro k
 induction k with
 | zero =>
   intro i s c best hk hi hst hS hb hR
   have hin:i=n:=by omega
   subst hin
   refine codeAny_builtin PySem.F.entry_max_loop ?_;rw [Around.under_plainId PySem.F.plain_max_loop _]
   show wpAny _ A.in1 (seqItems? (.ref S)>>=_) _ _ s;refine wpAny_bind (wpAny_seqItems hS rfl ?_)
   show wpAny _ A.in1 (tryCatch (pyNext (.ref I)) _>>=_) _ _ s;skip
   refine wpAny_bind (wpAny_tryCatch (W.done s _ _ hst fun h' tk hk'=>?_))
   have hS':=hk' S _ (by simpa using hSI) hS
   rcases hb with ⟨h0,rfl⟩|⟨m,t,rfl,_,hm1,hm2⟩
   . omega
   . show wpAny _ A.in1 (updateSeq S (fun _=>#[])>>=_) _ _ _
     refine wpAny_bind ?_
     refine wpAny_updateSeq hS' rfl (wpAny_bind (wpAny_letGo (wpAny_pure ?_)))
     rw [←hn,List.take_length] at hm1 hm2
     exact hR m t _ tk hm1 hm2 fun b o hbI hbS e=>(Heap.get?_update_other _ _ (Ne.symm hbS)).trans (hk' b o (by simpa using hbI) e)
 | succ k ih =>
   intro i s c best hk hi hst hS hb hR
   have hlt:i<n:=by omega
   refine codeAny_builtin PySem.F.entry_max_loop ?_;rw [Around.under_plainId PySem.F.plain_max_loop _]
   show wpAny _ A.in1 (seqItems? (.ref S)>>=_) _ _ s;refine wpAny_bind (wpAny_seqItems hS rfl ?_)
   show wpAny _ A.in1 (tryCatch (pyNext (.ref I)) _>>=_) _ _ s;skip
   refine wpAny_bind (wpAny_tryCatch (W.item i s _ _ hlt hst fun v h' tk hPv hst' hk'=>?_))
   have hS':=hk' S _ (by simpa using hSI) hS
   obtain⟨n1,t1,hx,rfl⟩:=hP i v hPv
   have htk:ks.take (i+1)=ks.take i++[n1]:=by rw [List.take_succ,hx];rfl
   have upS:∀ f:Array Value->Array Value,St (i+1) (h'.update S (Obj.mapSeq f)):=fun f=>W.frame _ _ _ hst' fun b hb o e=>(Heap.get?_update_other _ _ (fun z:S=b=>hSf (by rw [z];exact hb))).trans e
   have old:∀ (f:Array Value->Array Value) (b:Addr) (o:Obj),b≠I->b≠S->s.heap.get? b=some o->(h'.update S (Obj.mapSeq f)).get? b=some o:=fun f b o hbI hbS e=>(Heap.get?_update_other _ _ (Ne.symm hbS)).trans (hk' b o (by simpa using hbI) e)
   rcases hb with ⟨h0,rfl⟩|⟨n2,t2,rfl,hi0,hm1,hm2⟩
   . show wpAny _ A.in1 (updateSeq S (fun _=>#[.int n1 t1,.int n1 t1])>>=_) _ _ _
     refine wpAny_bind ?_
     refine wpAny_updateSeq hS' rfl ?_
     rw [hname]
     subst h0
     refine wpAny_pure ⟨plainId_quiet PySem.F.plain_max_loop _,ih 1 _ _ #[.int n1 t1,.int n1 t1] (by omega) hlt (upS _) (Heap.get?_update_self _ hS' rfl) (.inr ⟨n1,t1,rfl,by omega,by rw [htk];simp,fun x hx'=>?_⟩) fun m t h'' tk' a1 a2 kk=>?_⟩
     . rw [htk] at hx'
       simp at hx'
       omega
     . exact hR m t h'' tk' a1 a2 fun b o hbI hbS e=>kk b o hbI hbS (old _ b o hbI hbS e)
   . show wpAny _ A.in1 (tryCatch (holding [.int n1 t1,.int n1 t1] (richCompare .Gt (.int n1 t1) (.int n2 t2)>>=_)) _>>=_) _ _ _
     refine wpAny_bind (wpAny_tryCatch (wpAny_holding (wpAny_bind (CmpOf.ints_gt (prog:=prog) (w:=w) (A:=A.in1) (P:=fun i v=>∃ t,v=.int (if i=0 then n1 else n2) t) (fun i=>if i=0 then n1 else n2) (fun i v h=>h) 0 1 _ _ _ _ _ ⟨t1,rfl⟩ ⟨t2,rfl⟩ ?_))))
     refine wpAny_bind (wpAny_holding (wpAny_truthy_bool ?_))
     refine wpAny_bind (wpAny_letGo (wpAny_pure ?_))
     split
     . next hgt =>
       have hgt':n2<n1:=by simpa using hgt
       refine wpAny_bind ?_
       refine wpAny_updateSeq hS' rfl (wpAny_bind (wpAny_letGo ?_));rw [hname]
       refine wpAny_pure ⟨plainId_quiet PySem.F.plain_max_loop _,ih (i+1) _ _ #[.int n1 t1,.int n1 t1] (by omega) hlt (upS _) (Heap.get?_update_self _ hS' rfl) (.inr ⟨n1,t1,rfl,by omega,by rw [htk];simp,fun x hx'=>?_⟩) fun m t h'' tk' a1 a2 kk=>?_⟩
       . rw [htk] at hx'
         rcases List.mem_append.mp hx' with h1 | h1
         . have:=hm2 x h1;omega
         . simp at h1;omega
       . exact hR m t h'' tk' a1 a2 fun b o hbI hbS e=>kk b o hbI hbS (old _ b o hbI hbS e)
     . next hgt =>
       have hgt':n1<=n2:=by simpa using hgt
       refine wpAny_bind (wpAny_letGo ?_);rw [hname]
       refine wpAny_pure ⟨plainId_quiet PySem.F.plain_max_loop _,ih (i+1) _ _ #[.int n2 t2,.int n2 t2] (by omega) hlt hst' hS' (.inr ⟨n2,t2,rfl,by omega,by rw [htk];simp [hm1],fun x hx'=>?_⟩) fun m t h'' tk' a1 a2 kk=>?_⟩
       . rw [htk] at hx'
         rcases List.mem_append.mp hx' with h1 | h1
         . exact hm2 x h1
         . simp at h1;omega
       . exact hR m t h'' tk' a1 a2 fun b o hbI hbS e=>kk b o hbI hbS (hk' b o (by simpa using hbI) e)
end
end L2
namespace L2
open PySem PySem.Spec PyProof.Rows
theorem Tg {X:Cx} (hc:X.calm=true):Hl X (.builtin "max") (fun xs H Q=>∃ (p:Addr) (ks:List Int) (kvs:List (Key × V)),xs=[.ref p]/\H p=some (.dK kvs)/\kvs.map (·.1)=ks.map (fun k=>(.inl k:Key))/\ks≠[]/\∀ m,m∈ks->(∀ x∈ks,x<=m)->Q (.int m) H):=by
 intro Ab s σ H xs us Q I r h
 obtain⟨p,ks,kvs,rfl,hp,hk,hne,q⟩:=h
 obtain⟨u,rfl,ru⟩:=Y2 r
 cases ru
 have hh:X.A.handled=none:=I.ok.hd hc
 obtain⟨z,hsys,vs,rel,o,es,ep,ho,c⟩:=id (I.hok p _ hp)
 have hm:s.heap.DictAt (mixKind X.prog X.w) p vs ep:=⟨o,es,ho,c⟩
 have hl:ks.length=vs.length:=by rw [←rel.length];simpa using (congrArg List.length hk).symm
 have hll:p<s.heap.objs.size:=Heap.lt_size ho
 have hname:(toString "max"++toString ".loop":String)="max.loop":=by decide
 refine PyProof.Rows.kmk_tree PySem.F.kind_max PySem.F.plain_max PySem.F.entry_max (A58 _) ?_
 show wpAny _ X.A.in1 (Builtin.Builtins.bindParams "max" ["key","default"] 0 ⟨[],[]⟩>>=_) _ _ s
 refine wpAny_bind (wpAny_of_eq (show Builtin.Builtins.bindParams "max" ["key","default"] 0 ⟨[],[]⟩=pure [none,none] from rfl) ?_)
 refine wpAny_bind (wpAny_pure ?_)
 refine wpAny_bind (wpAny_pyIter_dict hsys hm ?_)
 refine wpAny_bind (wpAny_newList ?_ (Nat.zero_le _))
 rw [hname]
 have hS:(s.heap.push { cls:=.type "dict_keyiterator",data:=.fields #[.ref p,.int 0 0,.int vs.length 0,.int ep 0] }).objs.size=s.heap.objs.size+1:=Heap.size_push ..
 refine wpAny_pure ⟨plainId_quiet PySem.F.plain_max_loop _,?_⟩
 have hpI:p≠s.heap.objs.size:=Nat.ne_of_lt hll
 refine Ay8 (S:=(s.heap.push { cls:=.type "dict_keyiterator",data:=.fields #[.ref p,.int 0 0,.int vs.length 0,.int ep 0] }).objs.size) (Walks.dictKeys (prog:=X.prog) (w:=X.w) (A:=X.A.in1) (knd:=mixKind X.prog X.w) hh s.heap.objs.size p hpI vs ep) ?_ (by rw [hS];exact Nat.succ_ne_self _) ks hl (by rw [←hl];exact List.length_pos_iff.mpr hne) (fun i v ⟨k,x,e1,e2⟩=>?_) _ 0 _ 0 #[] rfl (Nat.zero_le _) ⟨?_,?_⟩ ?_ (.inl ⟨rfl,rfl⟩) fun m t h' tk a1 a2 kk=>?_
 . rw [hS]
   intro hq
   rcases List.mem_cons.mp hq with y | y
   . exact absurd y (Nat.succ_ne_self _)
   . have y2:s.heap.objs.size+1=p:=by simpa using y
     exact absurd hll (by rw [←y2];exact Nat.not_lt.mpr (Nat.le_succ _))
 . have e5:(vs.map (·.1))[i]?=some k:=by rw [List.getElem?_map,e1];rfl
   rw [←rel.keys,hk,List.getElem?_map] at e5
   cases hx:ks[i]? with
   | none=>rw [hx] at e5;cases e5
   | some n =>
     rw [hx] at e5
     cases e5
     obtain⟨t,ht⟩:=Bt3 (P:=X.prog) (w:=X.w) e2
     exact ⟨n,t,rfl,ht⟩
 . exact ⟨_,Heap.get?_push_of_some _ (Heap.get?_push_size _ rfl),rfl,rfl⟩
 . exact (hm.at' fun o e=>Heap.get?_push_of_some _ e).at' fun o e=>Heap.get?_push_of_some _ e
 . exact Heap.get?_push_size _ rfl
 . refine⟨.int m,H,I.kept fun b o e=>?_,⟨t,rfl⟩,q m a1 a2⟩
   have hb:=Heap.lt_size e
   exact kk b o (Nat.ne_of_lt hb) (by rw [hS];exact Nat.ne_of_lt (Nat.lt_succ_of_lt hb)) (Heap.get?_push_of_some _ (Heap.get?_push_of_some _ e))
end L2
namespace L2
open PySem PySem.Spec PyProof.Rows
structure HasM (P:Program) (w:World) (K:W.Frag) (mg:Str->Option Value) (base:Heap) (C:Addr) (m:Str) (ps:List Str) (k:Nat) (sp:Sp):Prop where
 ex:∃ (f:Addr) (fd:FuncData),Meth K C m f/\Gi K fd ps []/\FnOk P w K mg base CX0 k f fd ps sp
structure HasC (P:Program) (w:World) (K:W.Frag) (mg:Str->Option Value) (base:Heap) (C:Addr) (ps:List Str) (k:Nat) (sp:Sp):Prop where
 ex:∃ (f:Addr) (fd:FuncData),Mk K C f/\Gi K fd ps []/\FnOk P w K mg base CX0 k f fd ps sp
section
variable {X:Cx}{K:W.Frag}{j k:Nat}{C:Addr}{ps:List Str}{sp:Sp}{x m f:Str}{p pos apos pos':Pos}{e o value:Expr}{es:List Expr}{ta tv:TE}{t:TA}
theorem Af1 {pl:Sem Bool} (he:PE X o ta) (c:Cls X.K C) (h:HasM X.prog X.w X.K X.mg X.base C m ps j sp) (hr:Room k X.A) (ha:PA X (e::es) t) (hk:j<=k:=by decide)
 (hst:starEach (e::es) X.env=(false,eval e X.env)::starEach es X.env:=by rfl) (hpl:(backTo pos (starEach es X.env)).any (·.1)=false:=by rfl)
 (ht:eval (.Call (.Attribute o m apos) (e::es) [] pos) X.env=(do
   let ov ←eval o X.env
   standAt apos.atName
   let (f,first) ←holding [ov] (getMethod ov m pl)
   callWith pos f first (backTo pos (starEach (e::es) X.env)) (backToKw pos (keywordEach [] X.env))):=by rfl) :
 PE X (.Call (.Attribute o m apos) (e::es) [] pos) (A73 C m sp [] E0 ta t):=by
 obtain⟨f,fd,h1,h2,h3⟩:=h.ex
 exact Bh8 he c h1 h3 (hr.mono hk) h2 .nil A96 ha hst hpl ht
theorem Mr {pl:Sem Bool} (he:PE X o ta) (c:Cls X.K C) (h:HasM X.prog X.w X.K X.mg X.base C m ps j sp) (hr:Room k X.A) (hk:j<=k:=by decide)
 (ht:eval (.Call (.Attribute o m apos) [] [] pos) X.env=(do
   let ov ←eval o X.env
   standAt apos.atName
   let (f,first) ←holding [ov] (getMethod ov m pl)
   callWith pos f first (backTo pos (starEach [] X.env)) (backToKw pos (keywordEach [] X.env))):=by rfl) :
 PE X (.Call (.Attribute o m apos) [] [] pos) (A73 C m sp [] E0 ta tNil):=by
 obtain⟨f,fd,h1,h2,h3⟩:=h.ex
 exact A87 he c h1 h3 (hr.mono hk) h2 .nil A96 ht
theorem A89 (h:HasC X.prog X.w X.K X.mg X.base C ps j sp) (hr:Room k X.A) (hg:Gl X x) (hm:X.mg x=some (.ref C)) (ha:PA X (e::es) t) (hk:j+1<=k:=by decide) (hdb:(x==("__debug__":Str))=false:=by decide)
 (he:starEach (e::es) X.env=(false,eval e X.env)::starEach es X.env:=by rfl) (hpl:(backTo pos (starEach es X.env)).any (·.1)=false:=by rfl):PE X (.Call (.Name x p) (e::es) [] pos) (Bo1 C sp [] E0 t):=by
 obtain⟨f,fd,h1,h2,h3⟩:=h.ex
 exact Bh9 h1 h3 (hr.mono hk) hg hm h2 .nil A96 ha hdb he hpl
theorem B6 (he:PE X e ta) (hK:X.K=K:=by rfl) (hb:attributeBase e f X.env (eval e X.env)=eval e X.env:=by rfl):PE X (.Attribute e f pos) (tFld K ta f):=by subst hK;exact Bq3 he hb
theorem R5 (ha:PE X o ta) (hv:PE X value tv) (hK:X.K=K:=by rfl) (hs:swapsWith value (some (.Attribute o f pos')) pos.line X.env=pure false:=by rfl):PS X (.Assign [.Attribute o f pos'] value pos) (sFld K ta tv f):=by subst hK;exact Bp7 ha hv hs
end
end L2
namespace L2
open PySem PySem.Spec PyProof.Rows
structure FunD (K:W.Frag) (x qual:Str) (st:Stmt) (f:Addr) (fd:FuncData) (ds:List Value):Prop where
 ex:∃ (oc:Value) (od:Option Addr) (kV doc pm:Value) (an:Option Addr) (Bw ct:Value) (osl:Array (Option Value)) (dt:Addr) (tn:Nat) (tsl:Array (Option Value)) (tdd:Option Addr),
  fd=PySem.W.fnOf x qual (Bd st) (Ba st) (Aj st) (.ref dt) kV doc pm an Bw ct/\K.lookup f=some ⟨oc,od,.func fd,osl⟩/\PySem.W.codeIn K Bw qual=true/\K.lookup dt=some ⟨.type "tuple",tdd,.seq ds.toArray tn,tsl⟩
 kp:PySem.W.keepIn K (.ref f)=true
section
variable {P:Program}{w:World}{K:W.Frag}{mg:Str->Option Value}{base:Heap}{ds:List Value}
theorem FunD.binds {x qual:Str}{st:Stmt}{f:Addr}{fd:FuncData}{ps:List Str}{dd:List Value} (F:FunD K x qual st f fd ds)
 (h:∀ (kV doc pm:Value) (an:Option Addr) (Bw ct:Value) (dt:Addr) (us:List Value),us.length+dd.length=ps.length →
   ∃ k:Option (Array Value)->Sem (List (Str × Value)),bindArgs (PySem.W.fnOf x qual (Bd st) (Ba st) (Aj st) (.ref dt) kV doc pm an Bw ct) ⟨us,[]⟩=seqItems? (.ref dt)>>=k/\k (some ds.toArray)=pure (ps.zip (us++dd))):Gi K fd ps dd:=by
 obtain⟨oc,od,kV,doc,pm,an,Bw,ct,osl,dt,tn,tsl,tdd,rfl,lk,hcd,lt⟩:=F.ex
 intro s us X hl
 obtain⟨k,h1,h2⟩:=h kV doc pm an Bw ct dt us (by rw [←List.length_append];exact hl)
 exact .of_defaults rfl (X _ _ lt) rfl h1 h2
end
end L2
namespace L2
open PySem PySem.Spec PyProof.Rows PySem.W
section
variable {prog:Program}{w:World}{A:Around}{E:Value->Shared->Prop}{h:Heap}{g:Array GenState}{d:Drawn}{t:Nat}{os:OsState}{a C dx:Addr}{o:Obj}{K:Frag}{cd:ClassData}{mA:Str->Option Value}{v:Value}{name:Str}
end
end L2
namespace L2
open PySem PySem.Spec PyProof.Rows PySem.W PySem.Builtin PySem.Builtin.ObjectAttr
section
variable {prog:Program}{w:World}{A:Around}{K:Frag}{s:Shared}{x C D:Addr}{R:Result->Shared->Prop}
end
section
variable {prog:Program}{w:World}{A:Around}{E:Value->Shared->Prop}{K:Frag}{s:Shared}{x C:Addr}
end
end L2
namespace L2
open PySem PySem.Spec PyProof.Rows PySem.W
section
variable {prog:Program}{w:World}{A:Around}{E:Value->Shared->Prop}{h:Heap}{g:Array GenState}{d:Drawn}{t:Nat}{os:OsState}{K:Frag}{C D f:Addr}{rest:List Value}
end
end L2
namespace L2
open PySem PySem.Spec PyProof.Rows PySem.W
section
variable {X:Cx}{K:Frag}
end
end L2
namespace L2
open PySem PySem.Spec PyProof.Rows PySem.W
def del (H:Hp) (e:Addr):Hp:=fun b=>if b=e then none else H b
section
variable {M:Model}{A:Around}{E:Value->Shared->Prop}{env:Env}
end
section
variable {P:Program}{w:World}{K:W.Frag}{mg:Str->Option Value}{base:Heap}{N:List Str}{qual:Str}{scope:Scope}{f:Addr}{cd:Value}{A:Around}{outer:List Env}{s:Shared}{H:Hp}{E:XK}
end
end L2
namespace L2
open PySem PySem.Spec PyProof.Rows PySem.W
section
variable {prog:Program}{w:World}{A:Around}{E:Value->Shared->Prop}{h:Heap}{g:Array GenState}{d:Drawn}{t:Nat}{os:OsState}{a C dx:Addr}{o:Obj}{K:Frag}{mA:Str->Option Value}{v:Value}{name:Str}
end
section
variable {X:Cx}{K:Frag}
end
end L2
namespace L2
open PySem PySem.Spec PyProof.Rows PySem.W
section
variable {X:Cx}{K:Frag}
end
end L2
namespace Hb
def sumN (f:Nat->Int):Nat->Int
 | 0=>0
 | n+1=>sumN f n+f n
theorem Fc {f g:Nat->Int}:∀{n:Nat},(∀ k,k<n->f k=g k)->sumN f n=sumN g n
 | 0,_=>rfl
 | n+1,h=>by
   show sumN f n+f n=sumN g n+g n
   rw [Fc fun k hk=>h k (by omega),h n (by omega)]
theorem Ws (f g:Nat->Int):∀ n:Nat,sumN (fun k=>f k+g k) n=sumN f n+sumN g n
 | 0=>rfl
 | n+1=>by
   show sumN _ n+(f n+g n)=(sumN f n+f n)+(sumN g n+g n)
   rw [Ws f g n]
   omega
theorem Y5 (c:Int) (f:Nat->Int):∀ n:Nat,sumN (fun k=>c*f k) n=c*sumN f n
 | 0=>by show (0:Int)=c*0;rw [Int.mul_zero]
 | n+1=>by
   show sumN _ n+c*f n=c*(sumN f n+f n)
   rw [Y5 c f n,Int.mul_add]
theorem Vo (f:Nat->Int) (i:Nat):∀ n:Nat,sumN (fun k=>(if k=i then 1 else 0)*f k) n=if i<n then f i else 0
 | 0=>by simp [sumN]
 | n+1=>by
   show sumN _ n+(if n=i then 1 else 0)*f n=_
   rw [Vo f i n]
   by_cases h:n=i
   . subst h;simp
   . by_cases h2:i<n
     . rw [if_pos h2,if_neg h,if_pos (by omega)];omega
     . rw [if_neg h2,if_neg h,if_neg (by omega)];omega
end Hb
namespace Hb
open PySem L2
abbrev Ms:=List (Int × Int)
def nd (ms:Ms):Prop:=(ms.map (·.1)).Nodup
def nz (ms:Ms):Prop:=∀ p∈ms,p.2≠0
def addI (ms:Ms) (k n:Int):Ms:=if getI ms k+n=0 then Ss ms k else putI ms k (getI ms k+n)
def Ed (ms ns:Ms):Ms:=ns.foldl (fun acc p=>addI acc p.1 p.2) ms
def Bq (n:Int) (ms:Ms):Ms:=if n=0 then [] else ms.map fun p=>(p.1,n*p.2)
theorem Zv {ms:Ms}{k v:Int} (h:lookI ms k=some v):(k,v)∈ms:=by
 induction ms with
 | nil=>simp [lookI] at h
 | cons p ms ih =>
   rw [Cb] at h
   by_cases e:p.1=k
   . rw [if_pos e] at h
     have:p=(k,v):=by cases p;simp_all
     rw [this];exact List.mem_cons_self ..
   . rw [if_neg e] at h
     exact List.mem_cons_of_mem _ (ih h)
theorem Az1 {ms:Ms}{k:Int} (h:k ∉ ms.map (·.1)):lookI ms k=none:=by
 cases e:lookI ms k with
 | none=>rfl
 | some v=>exact absurd (List.mem_map_of_mem (f:=(·.1)) (Zv e)) h
theorem X2 {ms:Ms} (h:nd ms) {p:Int × Int} (hp:p∈ms):lookI ms p.1=some p.2:=by
 induction ms with
 | nil=>cases hp
 | cons q ms ih =>
   rw [Cb]
   unfold nd at h
   rw [List.map_cons,List.nodup_cons] at h
   rcases List.mem_cons.mp hp with rfl | hp
   . rw [if_pos rfl]
   . have:¬q.1=p.1:=fun z=>h.1 (by rw [z];exact List.mem_map_of_mem (f:=(·.1)) hp)
     rw [if_neg this]
     exact ih h.2 hp
theorem E9 {ms:Ms}{k:Int} (h:k ∉ ms.map (·.1)):getI ms k=0:=by unfold getI;rw [Az1 h];rfl
theorem J5 (p:Int × Int) (ms:Ms) (k:Int):getI (p::ms) k=if p.1=k then p.2 else getI ms k:=by
 unfold getI;rw [Cb];split<;>rfl
theorem Ba9 {ms:Ms} (h:nz ms) (k:Int):lookI ms k=if getI ms k=0 then none else some (getI ms k):=by
 unfold getI
 cases e:lookI ms k with
 | none=>rfl
 | some v =>
   have:=h _ (Zv e)
   show some v=if v=0 then none else some v
   rw [if_neg this]
theorem Bd9:∀ (l1 l2:List Int),l1.Nodup->(∀ x∈l1,x∈l2)->l1.length<=l2.length
 | [],l2,_,_=>Nat.zero_le _
 | x::l1,l2,h,hs=>by
   rw [List.nodup_cons] at h
   have hx:=hs x (List.mem_cons_self ..)
   have:=Bd9 l1 (l2.erase x) h.2 fun y hy=>by
    have ne:y≠x:=fun z=>h.1 (z▸hy)
    exact (List.mem_erase_of_ne ne).mpr (hs y (List.mem_cons_of_mem _ hy))
   have e:=List.length_erase_of_mem hx
   have:0<l2.length:=List.length_pos_of_mem hx
   rw [List.length_cons]
   omega
theorem Bj8 {ms:Ms} (h:nd ms) (k:Int):nd (Ss ms k):=by
 unfold nd Ss at *
 exact List.Nodup.sublist (List.Sublist.map _ List.filter_sublist) h
theorem Bj6 {ms:Ms} (h:nz ms) (k:Int):nz (Ss ms k):=fun p hp=>h p (List.mem_filter.mp hp).1
theorem A59 {ms:Ms}{k:Int}:(ms.any fun p=>decide (p.1=k))=true↔k∈ms.map (·.1):=by
 rw [List.any_eq_true,List.mem_map]
 constructor
 . rintro ⟨p,hp,e⟩;exact ⟨p,hp,by simpa using e⟩
 . rintro ⟨p,hp,e⟩;exact ⟨p,hp,by simpa using e⟩
theorem Bd6 {ms:Ms} (h:nd ms) (k v:Int):nd (putI ms k v):=by
 unfold nd putI at *
 split
 . rw [List.map_map]
   have e:((fun p:Int × Int=>p.1) ∘ fun p:Int × Int=>if p.1=k then (p.1,v) else p)=(·.1):=by
    funext p
    simp only [Function.comp]
    split<;>rfl
   rw [e];exact h
 . rename_i hn
   rw [A59] at hn
   rw [List.map_append,List.nodup_append]
   refine⟨h,by simp,fun a ha b hb e=>?_⟩
   have:b=k:=by simpa using hb
   exact hn (by rw [←this,←e];exact ha)
theorem Ay6 {ms:Ms}{k v:Int}{p:Int × Int} (hp:p∈putI ms k v):p∈ms\/p=(k,v):=by
 unfold putI at hp
 split at hp
 . obtain⟨q,hq,e⟩:=List.mem_map.mp hp
   by_cases z:q.1=k
   . rw [if_pos z] at e;right;rw [←e,z]
   . rw [if_neg z] at e;left;rw [←e];exact hq
 . rcases List.mem_append.mp hp with h | h
   . exact .inl h
   . exact .inr (by simpa using h)
theorem Bk1 (ms:Ms) (k v:Int):(putI ms k v).length<=ms.length+1:=by
 unfold putI
 split
 . rw [List.length_map];omega
 . rw [List.length_append];simp
theorem Bb0 (ms:Ms) (k:Int):(Ss ms k).length<=ms.length:=List.length_filter_le ..
theorem Br1 {ms:Ms} (h:nz ms) {k v:Int} (hv:v≠0):nz (putI ms k v):=fun p hp=>by
 rcases Ay6 hp with q | q
 . exact h p q
 . rw [q];exact hv
theorem Bd7 {ms:Ms} (h:nd ms) (k n:Int):nd (addI ms k n):=by unfold addI;split;exact Bj8 h k;exact Bd6 h k _
theorem Br2 {ms:Ms} (h:nz ms) (k n:Int):nz (addI ms k n):=by
 unfold addI
 split
 . exact Bj6 h k
 . rename_i q;exact Br1 h q
theorem Aa4 (ms:Ms) (k n:Int):(addI ms k n).length<=ms.length+1:=by
 unfold addI
 split
 . have:=Bb0 ms k;omega
 . exact Bk1 ..
theorem A13 (ms:Ms) (k n j:Int):getI (addI ms k n) j=if j=k then getI ms j+n else getI ms j:=by
 unfold addI
 split
 . rename_i q
   unfold getI at *
   rw [An3]
   by_cases e:j=k
   . subst e;simp;omega
   . simp [e]
 . unfold getI at *
   rw [Zu]
   by_cases e:j=k
   . subst e;simp
   . simp [e]
theorem L3:∀ (ns ms:Ms),nd ms->nz ms->nd ns->nd (Ed ms ns)/\nz (Ed ms ns)/\(Ed ms ns).length<=ms.length+ns.length/\∀ j,getI (Ed ms ns) j=getI ms j+getI ns j
 | [],ms,h1,h2,_=>⟨h1,h2,by simp [Ed],fun j=>by simp [Ed,getI,lookI]⟩
 | p::ns,ms,h1,h2,h3=>by
   unfold nd at h3
   rw [List.map_cons,List.nodup_cons] at h3
   obtain⟨r1,r2,r3,r4⟩:=L3 ns (addI ms p.1 p.2) (Bd7 h1 _ _) (Br2 h2 _ _) h3.2
   refine⟨r1,r2,?_,fun j=>?_⟩
   . have:=Aa4 ms p.1 p.2
     show (Ed (addI ms p.1 p.2) ns).length<=_
     rw [List.length_cons];omega
   . show getI (Ed (addI ms p.1 p.2) ns) j=_
     rw [r4,A13,J5]
     by_cases e:j=p.1
     . have:=E9 h3.1
       subst e
       simp [this]
     . have e':¬p.1=j:=fun z=>e z.symm
       simp [e,e']
def Au4 (f:Int->Int) (n:Nat):Ms:=(List.range n).map fun (i:Nat)=>((i:Int),f (i:Int))
theorem Kt {ms:Ms} (h:nd ms) (n:Int):nd (ms.map fun p=>(p.1,n*p.2)):=by
 unfold nd at *
 rw [List.map_map]
 exact h
end Hb
namespace Hb
open PySem L2
theorem P6:∀ (ns ms:Ms),(Ed ms ns).length<=ms.length+ns.length
 | [],ms=>by simp [Ed]
 | p::ns,ms=>by
   have h1:=P6 ns (addI ms p.1 p.2)
   have h2:=Aa4 ms p.1 p.2
   show (Ed (addI ms p.1 p.2) ns).length<=_
   rw [List.length_cons];omega
theorem Av5 {ms ns:Ms}{i:Nat}{q:Int × Int} (h:ns[i]?=some q):Ed ms (ns.take (i+1))=addI (Ed ms (ns.take i)) q.1 q.2:=by
 unfold Ed
 rw [List.take_add_one,h,List.foldl_append]
 rfl
theorem range_succ (f:Int->Int) (n:Nat):Au4 f (n+1)=Au4 f n++[((n:Int),f n)]:=by
 unfold Au4
 rw [List.range_succ,List.map_append]
 rfl
end Hb
namespace Hb
def Az (w:List Int) (fam:Int):List (List Int) :=
 if fam=0 then (if w.length<2 then [] else (List.range w.length).map fun i=>w.take i++w.drop (i+1))
 else if w.length=0 then []
 else if fam<0 then (if w.length=1 then [[],[]] else w.map fun l=>[l])
 else w.drop 1::((List.range (w.length-1)).map fun i=>w.take i++[(w.getD i 0+w.getD (i+1) 0)%fam]++w.drop (i+2))++[w.take (w.length-1)]
def Word (fam:Int) (w:List Int):Prop :=
 (fam=0/\1<=w.length/\w.length<=4)\/(fam<0/\(w.length=0\/w.length=1\/w.length=3))\/(0<fam/\w.length<=3)
def lv (fam:Int) (w:List Int):Nat:=if fam=0 then w.length-1 else if fam<0 then (if w.length=3 then 2 else w.length) else w.length
theorem Nh {fam:Int}{w:List Int} (h:Word fam w) :
 (fam=0/\((∃ a,w=[a])\/(∃ a b,w=[a,b])\/(∃ a b c,w=[a,b,c])\/∃ a b c d,w=[a,b,c,d])) ∨
 (fam<0/\(w=[]\/(∃ a,w=[a])\/∃ a b c,w=[a,b,c])) ∨
 (0<fam/\(w=[]\/(∃ a,w=[a])\/(∃ a b,w=[a,b])\/∃ a b c,w=[a,b,c])):=by
 rcases h with ⟨h0,h1,h2⟩|⟨h0,h1⟩|⟨h0,h1⟩
 . left
   refine⟨h0,?_⟩
   match w,h1,h2 with
   | [a],_,_=>exact .inl ⟨a,rfl⟩
   | [a,b],_,_=>exact .inr (.inl ⟨a,b,rfl⟩)
   | [a,b,c],_,_=>exact .inr (.inr (.inl ⟨a,b,c,rfl⟩))
   | [a,b,c,d],_,_=>exact .inr (.inr (.inr ⟨a,b,c,d,rfl⟩))
   | _::_::_::_::_::_,_,h=>simp at h
 . right;left
   refine⟨h0,?_⟩
   match w,h1 with
   | [],_=>exact .inl rfl
   | [a],_=>exact .inr (.inl ⟨a,rfl⟩)
   | [a,b],h=>simp at h
   | [a,b,c],_=>exact .inr (.inr ⟨a,b,c,rfl⟩)
   | _::_::_::_::_,h=>simp at h
 . right;right
   refine⟨h0,?_⟩
   match w,h1 with
   | [],_=>exact .inl rfl
   | [a],_=>exact .inr (.inl ⟨a,rfl⟩)
   | [a,b],_=>exact .inr (.inr (.inl ⟨a,b,rfl⟩))
   | [a,b,c],_=>exact .inr (.inr (.inr ⟨a,b,c,rfl⟩))
   | _::_::_::_::_,h=>simp at h
theorem f0_1 (a:Int):Az [a] 0=[]:=rfl
theorem f0_2 (a b:Int):Az [a,b] 0=[[b],[a]]:=rfl
theorem f0_3 (a b c:Int):Az [a,b,c] 0=[[b,c],[a,c],[a,b]]:=rfl
theorem f0_4 (a b c d:Int):Az [a,b,c,d] 0=[[b,c,d],[a,c,d],[a,b,d],[a,b,c]]:=rfl
section
variable {fam:Int}
theorem fn_0 (h:fam<0):Az [] fam=[]:=by unfold Az;rw [if_neg (by omega),if_pos (by simp)]
theorem fn_1 (h:fam<0) (a:Int):Az [a] fam=[[],[]]:=by unfold Az;rw [if_neg (by omega),if_neg (by simp),if_pos h,if_pos (by simp)]
theorem fn_3 (h:fam<0) (a b c:Int):Az [a,b,c] fam=[[a],[b],[c]]:=by unfold Az;rw [if_neg (by omega),if_neg (by simp),if_pos h,if_neg (by simp)];rfl
theorem fp_0 (h:0<fam):Az [] fam=[]:=by unfold Az;rw [if_neg (by omega),if_pos (by simp)]
theorem fp_1 (h:0<fam) (a:Int):Az [a] fam=[[],[]]:=by unfold Az;rw [if_neg (by omega),if_neg (by simp),if_neg (by omega)];rfl
theorem fp_2 (h:0<fam) (a b:Int):Az [a,b] fam=[[b],[(a+b)%fam],[a]]:=by unfold Az;rw [if_neg (by omega),if_neg (by simp),if_neg (by omega)];rfl
theorem fp_3 (h:0<fam) (a b c:Int):Az [a,b,c] fam=[[b,c],[(a+b)%fam,c],[a,(b+c)%fam],[a,b]]:=by unfold Az;rw [if_neg (by omega),if_neg (by simp),if_neg (by omega)];rfl
theorem Kz {w f:List Int} (h:Word fam w) (hf:f∈Az w fam):Word fam f/\lv fam f+1=lv fam w:=by
 rcases Nh h with ⟨h0,⟨a,rfl⟩|⟨a,b,rfl⟩|⟨a,b,c,rfl⟩|⟨a,b,c,d,rfl⟩⟩|⟨h0,rfl|⟨a,rfl⟩|⟨a,b,c,rfl⟩⟩|⟨h0,rfl|⟨a,rfl⟩|⟨a,b,rfl⟩|⟨a,b,c,rfl⟩⟩
 . subst h0;rw [f0_1] at hf;exact nomatch hf
 . subst h0;rw [f0_2] at hf
   simp only [List.mem_cons,List.not_mem_nil,or_false] at hf
   rcases hf with rfl | rfl<;>simp [Word,lv]
 . subst h0;rw [f0_3] at hf
   simp only [List.mem_cons,List.not_mem_nil,or_false] at hf
   rcases hf with rfl | rfl | rfl<;>simp [Word,lv]
 . subst h0;rw [f0_4] at hf
   simp only [List.mem_cons,List.not_mem_nil,or_false] at hf
   rcases hf with rfl | rfl | rfl | rfl<;>simp [Word,lv]
 . rw [fn_0 h0] at hf;exact nomatch hf
 . rw [fn_1 h0] at hf
   simp only [List.mem_cons,List.not_mem_nil,or_false,or_self] at hf
   subst hf
   have e:¬fam=0:=by omega
   simp [Word,lv,h0,e]
 . rw [fn_3 h0] at hf
   have e:¬fam=0:=by omega
   simp only [List.mem_cons,List.not_mem_nil,or_false] at hf
   rcases hf with rfl | rfl | rfl<;>simp [Word,lv,h0,e]
 . rw [fp_0 h0] at hf;exact nomatch hf
 . rw [fp_1 h0] at hf
   have e:¬fam=0:=by omega
   have e':¬fam<0:=by omega
   simp only [List.mem_cons,List.not_mem_nil,or_false,or_self] at hf
   subst hf
   simp [Word,lv,h0,e,e']
 . rw [fp_2 h0] at hf
   have e:¬fam=0:=by omega
   have e':¬fam<0:=by omega
   simp only [List.mem_cons,List.not_mem_nil,or_false] at hf
   rcases hf with rfl | rfl | rfl<;>simp [Word,lv,h0,e,e']
 . rw [fp_3 h0] at hf
   have e:¬fam=0:=by omega
   have e':¬fam<0:=by omega
   simp only [List.mem_cons,List.not_mem_nil,or_false] at hf
   rcases hf with rfl | rfl | rfl | rfl<;>simp [Word,lv,h0,e,e']
theorem G6 {w:List Int} (h:Word fam w):(Az w fam).length=(if lv fam w=0 then 0 else lv fam w+1)/\lv fam w<=3:=by
 rcases Nh h with ⟨h0,⟨a,rfl⟩|⟨a,b,rfl⟩|⟨a,b,c,rfl⟩|⟨a,b,c,d,rfl⟩⟩|⟨h0,rfl|⟨a,rfl⟩|⟨a,b,c,rfl⟩⟩|⟨h0,rfl|⟨a,rfl⟩|⟨a,b,rfl⟩|⟨a,b,c,rfl⟩⟩
 . subst h0;simp [f0_1,lv]
 . subst h0;simp [f0_2,lv]
 . subst h0;simp [f0_3,lv]
 . subst h0;simp [f0_4,lv]
 all_goals have e:¬fam=0:=by omega
 . simp [fn_0 h0,lv,e,h0]
 . simp [fn_1 h0,lv,e,h0]
 . simp [fn_3 h0,lv,e,h0]
 all_goals have e':¬fam<0:=by omega
 . simp [fp_0 h0,lv,e,e']
 . simp [fp_1 h0,lv,e,e']
 . simp [fp_2 h0,lv,e,e']
 . simp [fp_3 h0,lv,e,e']
theorem faces_agree {w f g:List Int}{i j:Nat} (h:Word fam w) (hl:2<=lv fam w) (hij:i<j) (hf:(Az w fam)[j]?=some f) (hg:(Az w fam)[i]?=some g):(Az f fam)[i]?=(Az g fam)[j-1]?:=by
 have hj:j<(Az w fam).length:=(List.getElem?_eq_some_iff.mp hf).1
 rcases Nh h with ⟨h0,⟨a,rfl⟩|⟨a,b,rfl⟩|⟨a,b,c,rfl⟩|⟨a,b,c,d,rfl⟩⟩|⟨h0,rfl|⟨a,rfl⟩|⟨a,b,c,rfl⟩⟩|⟨h0,rfl|⟨a,rfl⟩|⟨a,b,rfl⟩|⟨a,b,c,rfl⟩⟩
 . subst h0;simp [lv] at hl
 . subst h0;simp [lv] at hl
 . subst h0
   rw [f0_3] at hf hg hj
   have hc:(i=0/\j=1)\/(i=0/\j=2)\/(i=1/\j=2):=by simp at hj;omega
   rcases hc with ⟨rfl,rfl⟩|⟨rfl,rfl⟩|⟨rfl,rfl⟩
   . simp at hf hg;subst hf hg;rfl
   . simp at hf hg;subst hf hg;rfl
   . simp at hf hg;subst hf hg;rfl
 . subst h0
   rw [f0_4] at hf hg hj
   have hc:(i=0/\j=1)\/(i=0/\j=2)\/(i=0/\j=3)\/(i=1/\j=2)\/(i=1/\j=3)\/(i=2/\j=3):=by simp at hj;omega
   rcases hc with ⟨rfl,rfl⟩|⟨rfl,rfl⟩|⟨rfl,rfl⟩|⟨rfl,rfl⟩|⟨rfl,rfl⟩|⟨rfl,rfl⟩
   . simp at hf hg;subst hf hg;rfl
   . simp at hf hg;subst hf hg;rfl
   . simp at hf hg;subst hf hg;rfl
   . simp at hf hg;subst hf hg;rfl
   . simp at hf hg;subst hf hg;rfl
   . simp at hf hg;subst hf hg;rfl
 all_goals have e:¬fam=0:=by omega
 . simp [lv,e,h0] at hl
 . simp [lv,e,h0] at hl
 . rw [fn_3 h0] at hf hg hj
   have hc:(i=0/\j=1)\/(i=0/\j=2)\/(i=1/\j=2):=by simp at hj;omega
   rcases hc with ⟨rfl,rfl⟩|⟨rfl,rfl⟩|⟨rfl,rfl⟩
   . simp at hf hg;subst hf hg;simp [fn_1 h0]
   . simp at hf hg;subst hf hg;simp [fn_1 h0]
   . simp at hf hg;subst hf hg;simp [fn_1 h0]
 all_goals have e':¬fam<0:=by omega
 . simp [lv,e,e'] at hl
 . simp [lv,e,e'] at hl
 . rw [fp_2 h0] at hf hg hj
   have hc:(i=0/\j=1)\/(i=0/\j=2)\/(i=1/\j=2):=by simp at hj;omega
   rcases hc with ⟨rfl,rfl⟩|⟨rfl,rfl⟩|⟨rfl,rfl⟩
   . simp at hf hg;subst hf hg;simp [fp_1 h0]
   . simp at hf hg;subst hf hg;simp [fp_1 h0]
   . simp at hf hg;subst hf hg;simp [fp_1 h0]
 . rw [fp_3 h0] at hf hg hj
   have hc:(i=0/\j=1)\/(i=0/\j=2)\/(i=0/\j=3)\/(i=1/\j=2)\/(i=1/\j=3)\/(i=2/\j=3):=by simp at hj;omega
   rcases hc with ⟨rfl,rfl⟩|⟨rfl,rfl⟩|⟨rfl,rfl⟩|⟨rfl,rfl⟩|⟨rfl,rfl⟩|⟨rfl,rfl⟩
   . simp at hf hg;subst hf hg;simp [fp_2 h0]
   . simp at hf hg;subst hf hg;simp [fp_2 h0]
   . simp at hf hg;subst hf hg;simp [fp_2 h0]
   . skip
     simp at hf hg;subst hf hg
     simp only [fp_2 h0,List.getElem?_cons_succ,List.getElem?_cons_zero,Nat.add_one_sub_one]
     congr 2
     rw [Int.add_emod_emod,Int.emod_add_emod,Int.add_assoc]
   . simp at hf hg;subst hf hg;simp [fp_2 h0]
   . simp at hf hg;subst hf hg;simp [fp_2 h0]
end
def lev (p:List Int):Nat:=p.length-1
structure Fits (xs:List (List Int)) (p:List Int):Prop where
 cnt:p.length=0\/p.length=2\/p.length=3\/p.length=4
 low:∀ f∈p,0<=f
 bel:∀ f∈p,∃ q,xs[f.toNat]?=some q/\lev q+1=lev p
 agr:3<=p.length->∀ (i j:Nat) (f g:Int) (q r:List Int),i<j->p[j]?=some f->p[i]?=some g->xs[f.toNat]?=some q->xs[g.toNat]?=some r->q[i]?=r[j-1]?
def Fx (xs:List (List Int)):Prop:=∀ (k:Nat) (p:List Int),xs[k]?=some p->Fits (xs.take k) p
def Ord (fam:Int) (ws:List (List Int)):Prop:=∀ (k:Nat) (w:List Int),ws[k]?=some w->Word fam w/\∀ f∈Az w fam,f∈ws.take k
theorem Ord.nil {fam:Int}:Ord fam []:=fun k w h=>by simp at h
theorem Ord.snoc {fam:Int}{ws:List (List Int)}{w:List Int} (h:Ord fam ws) (hw:Word fam w) (hf:∀ f∈Az w fam,f∈ws):Ord fam (ws++[w]):=by
 intro k v hk
 by_cases hlt:k<ws.length
 . rw [List.getElem?_append_left hlt] at hk
   rw [List.take_append_of_le_length (by omega)]
   exact h k v hk
 . have hk':k<(ws++[w]).length:=(List.getElem?_eq_some_iff.mp hk).1
   have e:k=ws.length:=by simp at hk';omega
   subst e
   simp at hk
   subst hk
   rw [List.take_append_of_le_length (Nat.le_refl _),List.take_length]
   exact ⟨hw,hf⟩
theorem Ord.mem {fam:Int}{ws:List (List Int)} (h:Ord fam ws) {w:List Int} (hw:w∈ws):Word fam w/\∀ f∈Az w fam,f∈ws:=by
 obtain⟨k,hk⟩:=List.getElem?_of_mem hw
 obtain⟨h1,h2⟩:=h k w hk
 exact ⟨h1,fun f hf=>List.mem_of_mem_take (h2 f hf)⟩
def D9 (ws:List (List Int)):List (List Int)->List (List Int)
 | []=>ws
 | w::r=>D9 (if w∈ws then ws else ws++[w]) r
theorem Wk:∀ (rows ws:List (List Int)),(D9 ws rows).length<=ws.length+rows.length
 | [],ws=>by simp [D9]
 | w::r,ws=>by
   have h1:=Wk r (if w∈ws then ws else ws++[w])
   have h2:(if w∈ws then ws else ws++[w]).length<=ws.length+1:=by
    split
    . omega
    . simp
   simp only [D9,List.length_cons]
   omega
theorem Wj {fam:Int}:∀ (rows ws:List (List Int)),Ord fam ws->(∀ (k:Nat) (w:List Int),rows[k]?=some w->Word fam w/\∀ f∈Az w fam,f∈ws\/f∈rows.take k)->Ord fam (D9 ws rows)
 | [],ws,h,_=>h
 | w::r,ws,h,hr=>by
   have h0:=hr 0 w rfl
   have hw:∀ f∈Az w fam,f∈ws:=fun f hf=>(h0.2 f hf).resolve_right (by simp)
   simp only [D9]
   refine Wj r _ ?_ fun k v hk=>?_
   . split
     . exact h
     . exact h.snoc h0.1 hw
   . obtain⟨h1,h2⟩:=hr (k+1) v (by simpa using hk)
     refine⟨h1,fun f hf=>?_⟩
     rcases h2 f hf with z | z
     . left
       split
       . exact z
       . exact List.mem_append_left _ z
     . rw [List.take_succ_cons] at z
       rcases List.mem_cons.mp z with z | z
       . left
         subst z
         split
         . assumption
         . simp
       . exact .inr z
def Co (ws:List (List Int)):List (List Int)->List (List Int)->List (List Int)
 | acc,[]=>acc
 | acc,f::r=>Co ws (if f ∉ ws/\f ∉ acc then acc++[f] else acc) r
theorem Wh {ws:List (List Int)}{x:List Int}:∀ (fs acc:List (List Int)),x∈Co ws acc fs->x∈acc\/x∈fs
 | [],acc,h=>.inl h
 | f::r,acc,h=>by
   rcases Wh r _ h with z | z
   . split at z
     . rcases List.mem_append.mp z with z | z
       . exact .inl z
       . exact .inr (by simp at z;simp [z])
     . exact .inl z
   . exact .inr (List.mem_cons_of_mem _ z)
theorem Mi {ws:List (List Int)}{x:List Int}:∀ (fs acc:List (List Int)),x∈acc->x∈Co ws acc fs
 | [],acc,h=>h
 | f::r,acc,h=>Mi r _ (by split;exact List.mem_append_left _ h;exact h)
theorem Wi {ws:List (List Int)}{x:List Int}:∀ (fs acc:List (List Int)),x∈fs->x∈ws\/x∈Co ws acc fs
 | f::r,acc,h=>by
   rcases List.mem_cons.mp h with e | e
   . subst e
     by_cases h1:x∈ws
     . exact .inl h1
     . right
       refine Mi r _ ?_
       by_cases h2:x∈acc
       . rw [if_neg (by simp [h2])];exact h2
       . rw [if_pos ⟨h1,h2⟩];simp
   . exact Wi r _ e
theorem Ov {ws:List (List Int)}:∀ (fs acc:List (List Int)),(Co ws acc fs).length<=acc.length+fs.length
 | [],acc=>by simp [Co]
 | f::r,acc=>by
   have h1:=Ov (ws:=ws) r (if f ∉ ws/\f ∉ acc then acc++[f] else acc)
   have h2:(if f ∉ ws/\f ∉ acc then acc++[f] else acc).length<=acc.length+1:=by
    split
    . simp
    . omega
   simp only [Co,List.length_cons]
   omega
def Eh (ws:List (List Int)) (fam:Int):List (List Int)->List (List Int)->List (List Int)
 | acc,[]=>acc
 | acc,w::r=>Eh ws fam (Co ws acc (Az w fam)) r
theorem M9 {ws:List (List Int)}{fam:Int}{x:List Int}:∀ (l acc:List (List Int)),x∈Eh ws fam acc l->x∈acc\/∃ w∈l,x∈Az w fam
 | [],acc,h=>.inl h
 | w::r,acc,h=>by
   rcases M9 r _ h with z|⟨v,hv,z⟩
   . rcases Wh _ _ z with z | z
     . exact .inl z
     . exact .inr ⟨w,List.mem_cons_self,z⟩
   . exact .inr ⟨v,List.mem_cons_of_mem _ hv,z⟩
theorem Wg {ws:List (List Int)}{fam:Int}{x:List Int}:∀ (l acc:List (List Int)),x∈acc->x∈Eh ws fam acc l
 | [],acc,h=>h
 | w::r,acc,h=>Wg r _ (Mi _ _ h)
theorem j6 {ws:List (List Int)}{fam:Int}{x w:List Int}:∀ (l acc:List (List Int)),w∈l->x∈Az w fam->x∈ws\/x∈Eh ws fam acc l
 | v::r,acc,h,hx=>by
   rcases List.mem_cons.mp h with e | e
   . subst e
     rcases Wi (ws:=ws) _ acc hx with z | z
     . exact .inl z
     . exact .inr (Wg r _ z)
   . exact j6 r _ e hx
theorem Kl {ws:List (List Int)}{fam:Int}:∀ (l acc:List (List Int)),(∀ w∈l,Word fam w)->(Eh ws fam acc l).length<=acc.length+4*l.length
 | [],acc,_=>by simp [Eh]
 | w::r,acc,h=>by
   have h1:=Kl (ws:=ws) r (Co ws acc (Az w fam)) fun v hv=>h v (List.mem_cons_of_mem _ hv)
   have h2:=Ov (ws:=ws) (Az w fam) acc
   have h3:=G6 (h w List.mem_cons_self)
   simp only [Eh,List.length_cons]
   split at h3<;>omega
theorem Tt (ws:List (List Int)) (f:List Int):∀ (fs acc:List (List Int)),Co ws acc (fs++[f])=(if f ∉ ws/\f ∉ Co ws acc fs then Co ws acc fs++[f] else Co ws acc fs)
 | [],acc=>rfl
 | g::fs,acc=>Tt ws f fs _
theorem Wf (ws:List (List Int)) (fam:Int) (w:List Int):∀ (l acc:List (List Int)),Eh ws fam acc (l++[w])=Co ws (Eh ws fam acc l) (Az w fam)
 | [],acc=>rfl
 | v::l,acc=>Wf ws fam w l _
theorem Tu (w:List Int):∀ (rows ws:List (List Int)),D9 ws (rows++[w])=(if w∈D9 ws rows then D9 ws rows else D9 ws rows++[w])
 | [],ws=>rfl
 | v::rows,ws=>Tu w rows _
def Mu (ws:List (List Int)) (fam:Int):Nat->List (List Int)->List (List Int)->List (List Int)
 | 0,layer,rows=>rows
 | n+1,layer,rows=>Mu ws fam n (Eh ws fam [] layer) (layer++rows)
theorem Zz {ws:List (List Int)}{fam:Int}:∀ (n:Nat) (layer rows:List (List Int)),(∀ w∈layer,Word fam w/\lv fam w<n) →
 (∀ (k:Nat) (w:List Int),rows[k]?=some w->Word fam w/\∀ f∈Az w fam,f∈ws\/f∈layer\/f∈rows.take k) →
 ∀ (k:Nat) (w:List Int),(Mu ws fam n layer rows)[k]?=some w->Word fam w/\∀ f∈Az w fam,f∈ws\/f∈(Mu ws fam n layer rows).take k
 | 0,layer,rows,hl,hr,k,w,hk=>by
   obtain⟨h1,h2⟩:=hr k w hk
   refine⟨h1,fun f hf=>?_⟩
   rcases h2 f hf with z | z | z
   . exact .inl z
   . exact absurd (hl f z).2 (by omega)
   . exact .inr z
 | n+1,layer,rows,hl,hr,k,w,hk=>by
   refine Zz n _ _ ?_ ?_ k w hk
   . intro v hv
     rcases M9 _ _ hv with z|⟨u,hu,z⟩
     . exact nomatch z
     . obtain⟨q1,q2⟩:=hl u hu
       obtain⟨q3,q4⟩:=Kz q1 z
       exact ⟨q3,by omega⟩
   . intro m v hm
     by_cases hlt:m<layer.length
     . rw [List.getElem?_append_left hlt] at hm
       have hv:v∈layer:=List.mem_of_getElem? hm
       refine⟨(hl v hv).1,fun f hf=>?_⟩
       rcases j6 (ws:=ws) layer [] hv hf with z | z
       . exact .inl z
       . exact .inr (.inl z)
     . rw [List.getElem?_append_right (by omega)] at hm
       obtain⟨h1,h2⟩:=hr _ v hm
       refine⟨h1,fun f hf=>?_⟩
       rcases h2 f hf with z | z | z
       . exact .inl z
       . right;right
         rw [List.take_append]
         refine List.mem_append_left _ ?_
         rw [List.take_of_length_le (by omega)]
         exact z
       . right;right
         rw [List.take_append]
         exact List.mem_append_right _ z
def Mj (ws:List (List Int)) (w:List Int) (fam:Int):List (List Int):=D9 ws (Mu ws fam 4 [w] [])
theorem Wp {ws:List (List Int)}{w:List Int}{fam:Int} (h:Ord fam ws) (hw:Word fam w):Ord fam (Mj ws w fam):=by
 refine Wj _ _ h (Zz 4 [w] [] ?_ ?_)
 . intro v hv
   have e:v=w:=by simpa using hv
   subst e
   exact ⟨hw,by have:=(G6 hw).2;omega⟩
 . intro k v hk
   simp at hk
def idx (ws:List (List Int)) (f:List Int):Nat:=ws.findIdx (·==f)
theorem Bk9 {ws:List (List Int)}{f:List Int} (h:f∈ws):ws[idx ws f]?=some f:=by
 unfold idx
 have hl:ws.findIdx (·==f)<ws.length:=List.findIdx_lt_length_of_exists ⟨f,h,by simp⟩
 rw [List.getElem?_eq_getElem hl]
 have:=List.findIdx_getElem (xs:=ws) (p:=(·==f)) (w:=hl)
 simpa using this
theorem Bt5 {ws:List (List Int)}{f:List Int}{k:Nat} (h:f∈ws.take k):idx ws f<k:=by
 unfold idx
 obtain⟨i,hi⟩:=List.getElem?_of_mem h
 have hlt:i<(ws.take k).length:=(List.getElem?_eq_some_iff.mp hi).1
 rw [List.getElem?_take] at hi
 split at hi
 . rename_i hik
   have hl:i<ws.length:=(List.getElem?_eq_some_iff.mp hi).1
   have e:ws[i]=f:=by
    rw [List.getElem?_eq_getElem hl] at hi
    exact Option.some.inj hi
   have hle:ws.findIdx (·==f)<=i:=by
    apply Nat.le_of_not_lt
    intro hgt
    have:=List.not_of_lt_findIdx hgt
    simp [e] at this
   omega
 . cases hi
def Lx (ws:List (List Int)) (fam:Int):List (List Int):=ws.map fun w=>(Az w fam).map fun f=>(idx ws f:Int)
theorem q9 {ws:List (List Int)}{fam:Int}{k:Nat}{w:List Int} (h:ws[k]?=some w):(Lx ws fam)[k]?=some ((Az w fam).map fun f=>(idx ws f:Int)):=by
 unfold Lx
 rw [List.getElem?_map,h]
 rfl
theorem W7 {ws:List (List Int)}{fam:Int} (h:Ord fam ws):Fx (Lx ws fam):=by
 intro k p hp
 unfold Lx at hp
 rw [List.getElem?_map] at hp
 cases hw:ws[k]? with
 | none=>rw [hw] at hp;cases hp
 | some w =>
   rw [hw] at hp
   have hp':(Az w fam).map (fun f=>(idx ws f:Int))=p:=by simpa using hp
   subst hp'
   obtain⟨h1,h2⟩:=h k w hw
   obtain⟨n1,n2⟩:=G6 h1
   have look:∀ f∈Az w fam,((Lx ws fam).take k)[((idx ws f:Nat):Int).toNat]?=some ((Az f fam).map fun g=>(idx ws g:Int)):=fun f hf=>by
    have hm:=h2 f hf
    have hlt:=Bt5 hm
    rw [Int.toNat_natCast,List.getElem?_take,if_pos hlt]
    exact q9 (Bk9 (List.mem_of_mem_take hm))
   refine⟨?_,?_,?_,?_⟩
   . rw [List.length_map]
     by_cases hz:lv fam w=0
     . rw [if_pos hz] at n1;omega
     . rw [if_neg hz] at n1;omega
   . intro f hf
     obtain⟨g,_,rfl⟩:=List.mem_map.mp hf
     omega
   . intro f hf
     obtain⟨g,hg,rfl⟩:=List.mem_map.mp hf
     refine⟨_,look g hg,?_⟩
     obtain⟨w1,l1⟩:=Kz h1 hg
     obtain⟨m1,_⟩:=G6 w1
     unfold lev
     rw [List.length_map,List.length_map]
     have hz:¬lv fam w=0:=by omega
     rw [if_neg hz] at n1
     by_cases hy:lv fam g=0
     . rw [if_pos hy] at m1;omega
     . rw [if_neg hy] at m1;omega
   . intro hl i j f g q r hij hf hg hq hr
     rw [List.length_map] at hl
     rw [List.getElem?_map] at hf hg
     cases ef:(Az w fam)[j]? with
     | none=>rw [ef] at hf;cases hf
     | some F =>
       cases eg:(Az w fam)[i]? with
       | none=>rw [eg] at hg;cases hg
       | some G =>
         rw [ef] at hf
         rw [eg] at hg
         have ef':((idx ws F:Nat):Int)=f:=by simpa using hf
         have eg':((idx ws G:Nat):Int)=g:=by simpa using hg
         subst ef' eg'
         rw [look F (List.mem_of_getElem? ef)] at hq
         rw [look G (List.mem_of_getElem? eg)] at hr
         cases hq
         cases hr
         have hz:¬lv fam w=0:=by intro z;rw [if_pos z] at n1;omega
         rw [if_neg hz] at n1
         rw [List.getElem?_map,List.getElem?_map,faces_agree h1 (by omega) hij ef eg]
theorem An4 {ws:List (List Int)}{fam:Int}{w:List Int} (hw:Word fam w):(Mu ws fam 4 [w] []).length<=85:=by
 have step:∀ l:List (List Int),(∀ v∈l,Word fam v)->(Eh ws fam [] l).length<=4*l.length/\∀ v∈Eh ws fam [] l,Word fam v:=fun l hl=>by
  refine⟨by have:=Kl (ws:=ws) l [] hl;simpa using this,fun v hv=>?_⟩
  rcases M9 _ _ hv with z|⟨u,hu,z⟩
  . exact nomatch z
  . exact (Kz (hl u hu) z).1
 have s0:∀ v∈[w],Word fam v:=fun v hv=>by have e:v=w:=by simpa using hv
                                          subst e;exact hw
 obtain⟨a1,b1⟩:=step _ s0
 obtain⟨a2,b2⟩:=step _ b1
 obtain⟨a3,b3⟩:=step _ b2
 simp only [Mu,List.length_append,List.length_nil,List.length_cons] at a1 a2 a3 ⊢
 omega
end Hb
namespace Hb
def pc (xs:List (List Int)) (p:Int):List Int:=xs.getD p.toNat []
section
variable {xs:List (List Int)}
end
end Hb
namespace Hb
open PySem L2
def f8 (ns:List Int) (k:Int):Int:=ns.getD k.toNat 0
abbrev LT (K:W.Frag) (H:Hp) (v:V) (xs:List (List Int)):Prop:=Rep K H v (.lst (xs.map tI))
abbrev TI (K:W.Frag) (H:Hp) (v:V) (ns:List Int):Prop:=Rep K H v (tI ns)
section
variable {K:W.Frag}{H H':Hp}
theorem TI.sq {v:V}{ns:List Int} (h:TI K H v ns):∃ a,v=.ref a/\SqT K H a (ns.map V.int):=by
 obtain⟨a,vs,e,q,r⟩:=h
 rw [Fk.mp r] at q
 exact ⟨a,e,q⟩
theorem TI.mk {a:Addr}{ns:List Int} (h:SqT K H a (ns.map V.int)):TI K H (.ref a) ns:=⟨a,_,rfl,h,Fk.mpr rfl⟩
theorem TI.same {v:V}{ns:List Int} (s:Same H H') (h:TI K H v ns):TI K H' v ns:=Rep.same s h
theorem TI.t {v:V}{ns:List Int} (s:Ow H H') (h:TI K H v ns):TI K H' v ns:=Rep.t s (A06 ns) h
theorem Qa (xs:List V) (k:Nat):cutV xs none (some (k:Int))=xs.take k:=by
 unfold cutV
 rw [HT.sIx_none,HT.sIx_nat,Nat.sub_zero,List.drop_zero,List.take_eq_take_iff]
 omega
theorem Yp (xs:List V) (k:Nat):cutV xs (some (k:Int)) none=xs.drop k:=by
 unfold cutV
 rw [HT.sIx_none,HT.sIx_nat]
 by_cases h:k<=xs.length
 . rw [Nat.min_eq_left h,List.take_of_length_le (by rw [List.length_drop];omega)]
 . rw [Nat.min_eq_right (by omega),List.drop_length,List.drop_of_length_le (by omega)]
   simp
theorem Au5 {D:Addr}{ys:List V}{v:V}{d:L2.D}{ds:List L2.D} (hD:H D=some (.lst ys)) (r:Reps K H ys ds) (rv:Rep K H v d) (hi:imms (ds++[d])=true):Reps K (upd H D (.lst (ys++[v]))) (ys++[v]) (ds++[d]) :=
 (r.snoc rv).t (Ow.lst hD) hi
theorem Ht {D:Addr}{ys:List V}{v:V}{xs:List (List Int)}{x:List Int} (hD:H D=some (.lst ys)) (r:Reps K H ys (xs.map tI)) (rv:TI K H v x):Reps K (upd H D (.lst (ys++[v]))) (ys++[v]) ((xs++[x]).map tI):=by
 have e:(xs++[x]).map tI=xs.map tI++[tI x]:=by simp
 have h:=Mx (xs++[x])
 rw [e] at h ⊢
 exact Au5 hD r rv h
def SameX (B:Addr) (H H':Hp):Prop:=∀ b o,b≠B->H b=some o->H' b=some o
theorem SameX.refl (B:Addr) (H:Hp):SameX B H H:=fun _ _ _ h=>h
theorem SameX.trans {B:Addr}{H H1 H2:Hp} (a:SameX B H H1) (b:SameX B H1 H2):SameX B H H2:=fun c o n h=>b c o n (a c o n h)
theorem SameX.of {B:Addr}{H H1:Hp} (a:Same H H1):SameX B H H1:=fun c o _ h=>a c o h
theorem SameX.upd {B:Addr}{H H1:Hp}{o:HO} (a:SameX B H H1):SameX B H (upd H1 B o):=fun c u n h=>by rw [An n];exact a c u n h
theorem SameX.t {B:Addr}{H H1:Hp}{us:List V} (a:SameX B H H1) (h:H B=some (.lst us)):Ow H H1 :=
 ⟨fun b xs e=>a b _ (Hw e h (by intro z;cases z)) e,fun b o u e=>a b _ (Hw e h (by intro z;cases z)) e⟩
theorem SameX.same {B:Addr}{H0 H H1:Hp} (a:SameX B H H1) (s:Same H0 H) (h:H0 B=none):Same H0 H1:=fun b o e=>a b o (A8 e h) (s b o e)
theorem Ka:∀ ns:List Int,deps (nums ns)=0
 | []=>rfl
 | n::ns=>by show max (dep (.int n)) (deps (nums ns))=0;rw [Ka ns];rfl
theorem My:∀ xs:List (List Int),deps (xs.map tI)<=1
 | []=>Nat.zero_le _
 | x::xs=>by
   have h1:=My xs
   have h2:dep (tI x)=1:=by show deps (nums x)+1=1;rw [Ka]
   show max (dep (tI x)) (deps (xs.map tI))<=1
   omega
theorem Tl (f:List Int):∀ xs:List (List Int),(xs.map tI).any (fun e=>eqD e (tI f))=decide (f∈xs)
 | []=>rfl
 | x::xs=>by
   rw [List.map_cons,List.any_cons,Tl f xs,Be3]
   by_cases h:x=f
   . subst h;simp
   . have h':¬f=x:=fun z=>h z.symm
     simp [h,h']
theorem ifP {c A B:Prop} [Decidable c] (hc:c) (h:A):if c then A else B:=by rw [if_pos hc];exact h
theorem ifN {c A B:Prop} [Decidable c] (hc:¬c) (h:B):if c then A else B:=by rw [if_neg hc];exact h
theorem neI {a b:Int} (h:¬a=b):(!decide (V.int a=V.int b))=true:=by simp [h]
theorem eqI {a b:Int} (h:a=b):¬(!decide (V.int a=V.int b))=true:=by simp [h]
theorem noI {a b:Int} (h:¬a=b):¬decide (V.int a=V.int b)=true:=by simp [h]
theorem Vz {g:TG}{te:TE}{D:Addr}{Q:Hp->Prop}{τ:St}{H:Hp}{K:W.Frag}{a:Addr}{xs:List V} (Pv:Nat->List V->St->Hp->Prop) (h0:Pv 0 [] τ H) (hl:∀ i ys τ H,i<=xs.length->Pv i ys τ H->SqL K H a xs)
 (hs:∀ i x ys τ H,xs[i]?=some x->Pv i ys τ H->g x τ H fun τ2 H2=>te τ2 H2 fun y H4=>H4 D=some (.lst ys)/\ys.length<sizeLine/\Pv (i+1) (ys++[y]) τ2 (upd H4 D (.lst (ys++[y]))))
 (hd:∀ ys τ H,Pv xs.length ys τ H->Q H):RunC (Itl K a) g tYes te D Q τ H:=Mz Pv h0 hl (fun i x ys τ H e p=>hs i x ys τ H e p) hd
theorem Ta {g:TG}{te:TE}{D:Addr}{Q:Hp->Prop}{τ:St}{H:Hp}{K:W.Frag}{a:Addr}{xs:List V} (Pv:Nat->List V->St->Hp->Prop) (h0:Pv 0 [] τ H) (hl:∀ i ys τ H,i<=xs.length->Pv i ys τ H->SqT K H a xs)
 (hs:∀ i x ys τ H,xs[i]?=some x->Pv i ys τ H->g x τ H fun τ2 H2=>te τ2 H2 fun y H4=>H4 D=some (.lst ys)/\ys.length<sizeLine/\Pv (i+1) (ys++[y]) τ2 (upd H4 D (.lst (ys++[y]))))
 (hd:∀ ys τ H,Pv xs.length ys τ H->Q H):RunC (Itt K a) g tYes te D Q τ H:=Bc2 Pv h0 hl (fun i x ys τ H e p=>hs i x ys τ H e p) hd
theorem Mg {g:TG}{te:TE}{D:Addr}{Q:Hp->Prop}{τ:St}{H:Hp}{lo:Int}{n:Nat} (Pv:Nat->List V->St->Hp->Prop) (h0:Pv 0 [] τ H)
 (hs:∀ i ys τ H,i<n->Pv i ys τ H->g (.int (lo+i)) τ H fun τ2 H2=>te τ2 H2 fun y H4=>H4 D=some (.lst ys)/\ys.length<sizeLine/\Pv (i+1) (ys++[y]) τ2 (upd H4 D (.lst (ys++[y]))))
 (hd:∀ ys τ H,Pv n ys τ H->Q H):RunC (Itr lo n) g tYes te D Q τ H:=Fh Pv h0 (fun i ys τ H e p=>hs i ys τ H e p) hd
theorem A6 {t u:TS}{D:Ends}{σ:St}{H:Hp} (P:St->Hp->Prop) (hu:∀ σ' H',P σ' H'->u D σ' H') (h:(∀ σ' H',P σ' H'->u D σ' H')->tSeq t u D σ H):tSeq t u D σ H:=h hu
theorem Ao8 {f:List Int}:∀{ws:List (List Int)},f∈ws->(ws.map tI).findIdx? (fun e=>eqD e (tI f))=some (idx ws f):=fun {ws} h=>by
 have e:(ws.map tI).findIdx? (fun e=>eqD e (tI f))=ws.findIdx? (fun w=>w==f):=by
  rw [List.findIdx?_map]
  congr 1
  funext w
  show eqD (tI w) (tI f)=(w==f)
  rw [Be3]
  by_cases z:w=f
  . subst z;simp
  . simp [z]
 rw [e,List.findIdx?_eq_some_of_exists (xs:=ws) (p:=fun w=>w==f) ⟨f,h,by simp⟩]
 rfl
theorem Du {n:Nat} (h:n<=1000000):n<sizeLine:=Nat.lt_of_le_of_lt h (by decide)
theorem Bh {n:Nat} (h:n<=1000000):n<=sizeLine:=Nat.le_of_lt (Du h)
end
section
variable (K:W.Frag)
def Ai2:Sp:=fun vs H Q _=>∃ (a:Addr) (ns:List Int) (k:Int),vs=[.ref a,.int k]/\SqL K H a (ns.map V.int)/\0<=k/\ns.length<=63/\Q (.int (f8 ns k)) H
def n6:Sp:=fun vs H Q _=>∃ (v:V) (w:List Int) (fam:Int),vs=[v,.int fam]/\TI K H v w/\Word fam w ∧
 ∀ (p:Addr) (us:List V) (H':Hp),H p=none->Same H H'->H' p=some (.lst us)->Reps K H' us ((Az w fam).map tI)->Q (.ref p) H'
def Ai1:Sp:=fun vs H Q _=>∃ (c fam letters:Int),vs=[.int c,.int fam,.int letters]/\0<letters/\letters<100/\fam<100 ∧
 ∀ (v:V) (H':Hp) (w:List Int),Same H H'->TI K H' v w->Word fam w->Q v H'
def Wt:Sp:=fun vs H Q _=>∃ (l:Addr) (us:List V) (v:V) (ws:List (List Int)) (w:List Int) (fam:Int),vs=[.ref l,v,.int fam]/\H l=some (.lst us)/\Reps K H us (ws.map tI)/\TI K H v w/\Word fam w/\ws.length<=100 ∧
 ∀ (p:Addr) (us':List V) (H':Hp),H p=none->Same H H'->H' p=some (.lst us')->Reps K H' us' ((Mj ws w fam).map tI)->Q (.ref p) H'
def Ae5:Sp:=fun vs H Q _=>∃ (a:Addr) (ns:List Int),vs=[.ref a]/\SqL K H a (ns.map V.int)/\ns.length<=63/\∀ H',Q (.bl true) H'
def Lv:Sp:=fun vs H Q _=>∃ (a:Addr) (ns:List Int) (kind most:Int),vs=[.int kind,.ref a,.int most]/\SqL K H a (ns.map V.int)/\ns.length<=63/\0<=most/\most<=100 ∧
 ∀ (p:Addr) (us:List V) (H':Hp) (xs:List (List Int)),H p=none->Same H H'->H' p=some (.lst us)->Reps K H' us (xs.map tI)->Fx xs->(xs.length:Int)<=most->Q (.ref p) H'
end
end Hb
namespace Hb
open PySem L2
def Qb (d:L2.D):Bool:=isD "int" d&&!isD "bool" d
def Be7 (d:L2.D) (b:Int):Bool:=match d with
 | .int i=>decide (0<=i)&&decide (i<b)
 | _=>false
def levI (n:Nat):Int:=if (0:Int) > (n:Int)-1 then 0 else (n:Int)-1
def B0 (xs:List (List Int)) (d:L2.D) (l:Int):Bool:=match d with
 | .int i=>decide (0<=i)&&decide (i<(xs.length:Int))&&decide (levI (xs.getD i.toNat []).length=l)
 | _=>false
def Mh (xs:List (List Int)) (p:List Int) (j i:Nat):Bool:=decide ((xs.getD (p.getD j 0).toNat []).getD i 0=(xs.getD (p.getD i 0).toNat []).getD (j-1) 0)
def Fw (xs:List (List Int)) (p:List Int):Bool:=(List.range p.length).all fun j=>(List.range j).all fun i=>Mh xs p j i
def toI:L2.D->Int
 | .int i=>i
 | _=>0
def cntB (n:Nat):Bool:=n==0 || n==2 || n==3 || n==4
def Fz (xs:List (List Int)) (d:L2.D):Bool:=match d with
 | .tup ds=>cntB ds.length&&ds.all (fun e=>B0 xs e (levI ds.length-1))&&(decide (levI ds.length<2) || Fw xs (ds.map toI))
 | _=>false
theorem Dq (xs:List (List Int)) (ds:List L2.D):Fz xs (.tup ds)=(cntB ds.length&&ds.all (fun e=>B0 xs e (levI ds.length-1))&&(decide (levI ds.length<2) || Fw xs (ds.map toI))):=rfl
theorem Ad4 {n:Nat} (h:cntB n=true):n<=4/\n≠1:=by
 unfold cntB at h
 simp only [Bool.or_eq_true,beq_iff_eq] at h
 omega
section
variable (K:W.Frag)
def Cc:Sp:=fun vs H Q _=>∃ (x:V) (ds:List L2.D),vs=[x]/\SeqD K H x ds/\Q (.int (levI ds.length)) H
def Dh:Sp:=fun vs H Q _=>∃ (a:Addr) (x:V) (d:L2.D) (l:Int) (xs:List (List Int)),vs=[.ref a,x,.int l]/\LT K H (.ref a) xs/\Rep K H x d/\Q (.bl (B0 xs d l)) H
def F8:Sp:=fun vs H Q _=>∃ (a:Addr) (v:V) (xs:List (List Int)) (p:List Int),vs=[.ref a,v]/\LT K H (.ref a) xs/\TI K H v p/\p.length<=4 ∧
 (∀ f∈p,0<=f/\f<(xs.length:Int)/\(xs.getD f.toNat []).length+1=p.length)/\Q (.bl (Fw xs p)) H
abbrev Jm:Sp:=Ai2 K
abbrev E7:Sp:=n6 K
abbrev Jl:Sp:=Ai1 K
abbrev Fj:Sp:=Wt K
end
section
variable {K:W.Frag}{H:Hp}
theorem Vn {d:L2.D} (h:Qb d=true):∃ i,d=.int i:=by
 cases d<;>simp [Qb,isD] at h
 exact ⟨_,rfl⟩
theorem LT.get {a:Addr}{xs:List (List Int)}{i:Int} (h:LT K H (.ref a) xs) (h0:0<=i) (h1:i<(xs.length:Int)):∃ us v,SqL K H a us/\atI us i=some v/\TI K H v (xs.getD i.toNat []):=by
 obtain⟨a',us,e,hq,r⟩:=h
 cases e
 obtain⟨j,rfl⟩:=Int.eq_ofNat_of_zero_le h0
 have hj:j<xs.length:=by omega
 have e:(xs.map tI)[j]?=some (tI xs[j]):=by rw [List.getElem?_map,List.getElem?_eq_getElem hj];rfl
 obtain⟨v,hv,tv⟩:=r.get e
 refine⟨us,v,hq,Ei hv,?_⟩
 rw [Int.toNat_natCast,List.getD_eq_getElem?_getD,List.getElem?_eq_getElem hj]
 exact tv
theorem LT.len {a:Addr}{xs:List (List Int)} (h:LT K H (.ref a) xs):∃ us,SqL K H a us/\us.length=xs.length:=by
 obtain⟨a',us,e,hq,r⟩:=h
 cases e
 exact ⟨us,hq,by have:=r.length;simpa using this⟩
theorem TI.get {v:V}{p:List Int}{i:Int} (h:TI K H v p) (h0:0<=i) (h1:i<(p.length:Int)):∃ a,v=.ref a/\SqT K H a (p.map V.int)/\atI (p.map V.int) i=some (.int (p.getD i.toNat 0)):=by
 obtain⟨a,e,hq⟩:=h.sq
 refine⟨a,e,hq,?_⟩
 obtain⟨j,rfl⟩:=Int.eq_ofNat_of_zero_le h0
 have hj:j<p.length:=by omega
 refine Ei ?_
 rw [List.getElem?_map,List.getElem?_eq_getElem hj]
 simp [hj]
theorem C3 (n:Nat):levI n=((n-1:Nat):Int):=by unfold levI;split<;>omega
theorem Yz {xs:List (List Int)}{l:Int}:∀{ds:List L2.D},ds.all (fun e=>B0 xs e l)=true->ds=nums (ds.map toI)
 | [],_=>rfl
 | d::ds,h=>by
   simp only [List.all_cons,Bool.and_eq_true] at h
   cases d with
   | int i =>
     show L2.D.int i::ds=L2.D.int i::nums (ds.map toI)
     rw [←Yz h.2]
   | _=>simp [B0] at h
end
end Hb
namespace L2
open PySem PySem.Spec PyProof.Rows
def Dx (X:Cx) (sc:Scope) (N':List Str) (xc:Str) (C c:Addr) (s₀:Shared) (H₀:Hp) (fp:List Addr):Cx where
 prog:=X.prog
 w:=X.w
 K:=X.K
 mg:=X.mg
 base:=X.base
 A:=X.A
 N:=N'
 s₀:=s₀
 H₀:=H₀
 env:=compEnvC sc ((xc,c)::clOf X.env.cells sc.names []) C X.env
 outer:=X.stack
 stack:=X.stack
 ex:=fp
 fn:=fun x=>x==xc
 calm:=X.calm
 pn:=[]
 xe:=fun _ _=>False
structure Tz (X:Cx) (sc:Scope) (N':List Str) (cap:List (Option Nat)) (xc:Str):Prop where
 kind:sc.kind=.function
 len:cap.length=N'.length
 one:∀ n cl,cellsFrom n sc.names cl=(xc,n)::cl
 push:∀ h,pushCells h sc.names=h.push { cls:=.type "cell",data:=.cell none }
 own:∀ x∈sc.names,x.2=NameKind.cell->x.1=xc
 locals:∀ x∈sc.names,x.2=NameKind.local->sc.names.lookup x.1=some NameKind.local
 free:∀ n,(n,NameKind.free)∈sc.names->X.env.kindOf n=some .cell\/X.env.kindOf n=some .free
 slots:∀ (i j:Nat) (x:Str),N'[i]?=some x->cap[i]?=some (some j)->x≠xc/\X.N[j]?=some x/\((relabel sc X.env).names.lookup x=some .cell\/(relabel sc X.env).names.lookup x=some .free)/\Vis X.env.scope x
def Bm6 (osc:Scope) (N:List Str) (sc:Scope) (N':List Str) (cap:List (Option Nat)) (xc:Str):Bool :=
 decide (sc.kind=.function)&&decide (cap.length=N'.length)&&sc.names.all (fun x=>decide (x.2=NameKind.cell->x.1=xc))&&sc.names.all (fun x=>decide (x.2=NameKind.local->sc.names.lookup x.1=some NameKind.local)) &&
 sc.names.all (fun x=>decide (x.2=NameKind.free->(osc.names.lookup x.1=some .cell\/osc.names.lookup x.1=some .free))) &&
 (N'.zip cap).all (fun p=>match p.2 with
   | none=>true
   | some j=>decide (p.1≠xc)&&decide (N[j]?=some p.1)&&decide (((sc.names.map fun (n,k)=>if (k==.free&&osc.kind==.function&&osc.names.lookup n==some .cell) then (n,NameKind.cell) else (n,k)).lookup p.1=some .cell) ∨
      ((sc.names.map fun (n,k)=>if (k==.free&&osc.kind==.function&&osc.names.lookup n==some .cell) then (n,NameKind.cell) else (n,k)).lookup p.1=some .free)) &&
     decide (osc.names.lookup p.1=some .local\/osc.names.lookup p.1=some .cell\/osc.names.lookup p.1=some .free))
theorem Bc5 {X:Cx}{sc:Scope}{N':List Str}{cap:List (Option Nat)}{xc:Str} (h:Bm6 X.env.scope X.N sc N' cap xc=true) (one:∀ n cl,cellsFrom n sc.names cl=(xc,n)::cl) (push:∀ h,pushCells h sc.names=h.push { cls:=.type "cell",data:=.cell none }):Tz X sc N' cap xc:=by
 unfold Bm6 at h
 rw [Bool.and_eq_true,Bool.and_eq_true,Bool.and_eq_true,Bool.and_eq_true,Bool.and_eq_true,List.all_eq_true,List.all_eq_true,List.all_eq_true,List.all_eq_true] at h
 obtain⟨⟨⟨⟨⟨h1,h2⟩,h3⟩,h4⟩,h5⟩,h6⟩:=h
 refine⟨of_decide_eq_true h1,of_decide_eq_true h2,one,push,fun x hx=>of_decide_eq_true (h3 x hx),fun x hx=>of_decide_eq_true (h4 x hx),fun n hn=>of_decide_eq_true (h5 _ hn) rfl,fun i j x e1 e2=>?_⟩
 have hm:(x,some j)∈N'.zip cap:=by
  have e:(N'.zip cap)[i]?=some (x,some j):=by
   rw [List.getElem?_zip_eq_some]
   exact ⟨e1,e2⟩
  exact List.mem_of_getElem? e
 have h7:=h6 _ hm
 dsimp only at h7
 rw [Bool.and_eq_true,Bool.and_eq_true,Bool.and_eq_true] at h7
 obtain⟨⟨⟨h0,h8⟩,h9⟩,h10⟩:=h7
 exact ⟨of_decide_eq_true h0,of_decide_eq_true h8,of_decide_eq_true (p:=(relabel sc X.env).names.lookup x=some .cell\/(relabel sc X.env).names.lookup x=some .free) h9,of_decide_eq_true (p:=X.env.scope.names.lookup x=some .local\/X.env.scope.names.lookup x=some .cell\/X.env.scope.names.lookup x=some .free) h10⟩
section
variable {X:Cx}{sc:Scope}{N':List Str}{cap:List (Option Nat)}{xc:Str}{Ab:List (Addr × Obj)}{σ:St}{H:Hp}{s:Shared}{C c:Addr}{fp:List Addr}
theorem Tz.cells (o:Tz X sc N' cap xc) (ok:X.Ok):∀ n,(n,NameKind.free)∈sc.names->∃ c,X.env.cells.lookup n=some c:=fun n hn=>ok.has n (o.free n hn)
theorem F1 {env:Env}{x:Str}{k:NameKind} (hnc:∀ x∈sc.names,x.2=NameKind.cell->x.1=xc) (h:(relabel sc env).names.lookup x=some k) (hk:k=.cell\/k=.free):(x,NameKind.free)∈sc.names\/x=xc:=by
 have all:∀ (l:List (Str × NameKind)),(∀ x∈l,x.2=NameKind.cell->x.1=xc)->(l.map fun (n,k)=>if (k==NameKind.free&&env.scope.kind==.function&&env.kindOf n==some .cell) then (n,NameKind.cell) else (n,k)).lookup x=some k->(x,NameKind.free)∈l\/x=xc:=by
  intro l
  induction l with
  | nil=>intro _ h;exact nomatch h
  | cons p r ih =>
    intro hn h
    obtain⟨n,q⟩:=p
    rw [List.map_cons,List.lookup_cons] at h
    have up:((x,NameKind.free)∈r\/x=xc)->((x,NameKind.free)∈(n,q)::r\/x=xc):=fun z=>z.elim (fun z=>.inl (List.mem_cons_of_mem _ z)) .inr
    by_cases hc:(q==NameKind.free&&env.scope.kind==.function&&env.kindOf n==some .cell)=true
    . have hq:q=NameKind.free:=by
       have:=hc
       simp only [Bool.and_eq_true] at this
       simpa using this.1.1
      simp only [hc,if_true] at h
      cases hx:x==n with
      | true =>
        have e:x=n:=by simpa using hx
        rw [e,hq]
        exact .inl List.mem_cons_self
      | false =>
        rw [hx] at h
        exact up (ih (fun y hy=>hn y (List.mem_cons_of_mem _ hy)) h)
    . simp only [hc] at h
      cases hx:x==n with
      | true =>
        have e:x=n:=by simpa using hx
        simp only [Bool.false_eq_true,if_false,hx] at h
        have e2:q=k:=by simpa using h
        rcases hk with z | z
        . exact .inr (e.trans (hn (n,q) List.mem_cons_self (e2.trans z)))
        . rw [e,←z,←e2]
          exact .inl List.mem_cons_self
      | false =>
        simp only [Bool.false_eq_true,if_false,hx] at h
        exact up (ih (fun y hy=>hn y (List.mem_cons_of_mem _ hy)) h)
 exact all sc.names hnc h
theorem Aa3 {cl:List (Str × Addr)}{x:Str}{a:Addr} (h:((xc,c)::cl).lookup x=some a):(x=xc/\a=c)\/(x≠xc/\cl.lookup x=some a):=by
 rw [List.lookup_cons] at h
 cases hx:x==xc with
 | true=>rw [hx] at h;exact .inl ⟨by simpa using hx,(Option.some.inj h).symm⟩
 | false=>rw [hx] at h;exact .inr ⟨by simpa using hx,h⟩
theorem Bc3 (o:Tz X sc N' cap xc) (I:Inv X Ab σ H s) (hC:s.heap.objs.size<=C) (hc:s.heap.objs.size<=c) (hf:∀ b∈fp,FpOk X Ab H b) (hb:∀ b∈fp,b<s.heap.objs.size):(Dx X sc N' xc C c s H fp).Ok:=by
 have ltc:∀ x a,(clOf X.env.cells sc.names []).lookup x=some a->X.env.cells.lookup x=some a:=fun x a e=>Ct (o.cells I.ok) (fun z=>by simp at z) e
 have nc:∀ x a,(clOf X.env.cells sc.names []).lookup x=some a->a≠c:=fun x a e z=>by
  obtain⟨v,ob,hob,_⟩:=I.cell x a (ltc x a e)
  exact absurd (Nat.lt_of_lt_of_le (Heap.lt_size hob) (z▸hc)) (Nat.lt_irrefl _)
 exact {
  mod:=I.ok.mod
  kind:=o.kind
  glob:=I.ok.glob
  blt:=I.ok.blt
  above:=hC
  inj:=fun x y a hx hy=>by
   rcases Aa3 hx with ⟨rfl,rfl⟩|⟨n1,hx⟩<;>rcases Aa3 hy with ⟨e2,e3⟩|⟨n2,hy⟩
   . exact e2.symm
   . exact absurd rfl (nc _ _ hy)
   . exact absurd e3 (nc _ _ hx)
   . exact I.ok.inj x y a (ltc x a hx) (ltc y a hy)
  has:=fun x hx=>by
   have hm:(x,NameKind.free)∈sc.names\/x=xc:=by
    rcases hx with hx | hx
    . exact F1 o.own hx (.inl rfl)
    . exact F1 o.own hx (.inr rfl)
   by_cases e:x=xc
   . exact ⟨c,by show ((xc,c)::_).lookup x=_;rw [List.lookup_cons,e];simp⟩
   . obtain⟨a,ha⟩:=M4 (cells:=X.env.cells) (l:=sc.names) (acc:=[]) (x:=x) (.inl (hm.resolve_right e))
     refine⟨a,?_⟩
     show ((xc,c)::_).lookup x=_
     rw [List.lookup_cons]
     have:(x==xc)=false:=by simpa using e
     rw [this]
     exact ha
  cab:=fun x a h e=>by
   have hx:x=xc:=by simpa [Dx] using h
   rcases Aa3 e with ⟨_,rfl⟩|⟨n1,_⟩
   . exact hc
   . exact absurd hx n1
  hd:=I.ok.hd
  frames:=I.ok.frames
  stk:=.inl rfl
  exf:=fun b hb'=>⟨Nat.ne_of_lt (Nat.lt_of_lt_of_le (hb b hb') hC),fun x a e=>by
   rcases Aa3 e with ⟨_,rfl⟩|⟨_,e⟩
   . exact Nat.ne_of_gt (Nat.lt_of_lt_of_le (hb b hb') hc)
   . exact (hf b hb').2.2.2.2.1 x a (ltc x a e)⟩
  bs:=I.bs
  bsz:=Nat.le_trans I.ok.bsz I.sz
  noex:=fun b ob e hb'=>by
   rcases (hf b hb').2.2.2.1 with z | z
   . exact I.ok.noex b ob e z
   . exact absurd (Nat.lt_of_lt_of_le (Heap.lt_size e) (Nat.le_trans I.ok.bsz z)) (Nat.lt_irrefl _)
  exfs:=fun b hb' z=>by
   obtain⟨_,f1,f2,_⟩:=hf b hb'
   rcases List.mem_cons.mp (I.stkSub b z) with e | e
   . exact f1 e
   . exact f2 e
  funs:=I.stack
  frf:=I.stkFree }
theorem A46 (o:Tz X sc N' cap xc) (I:Inv X Ab σ H s) {D:Addr}{h1:Heap}{t:Nat} (hD:D=s.heap.objs.size) (hC:C=s.heap.objs.size+1) (hc:c=s.heap.objs.size+2) (hf:∀ b∈fp,FpOk X Ab H b) (hb:∀ b∈fp,b<s.heap.objs.size)
 (hn:h1.Ns C fun _=>none) (hcell:h1.IsCell c none) (hl:h1.get? D=some { cls:=.type "list",data:=.seq #[] 0 }) (k:∀ b o,s.heap.get? b=some o->h1.get? b=some o) :
 Inv (Dx X sc N' xc C c s H fp) [] (capS cap σ) (upd H D (.lst [])) { s with heap:=h1,toks:=t }:=by
 have hCs:s.heap.objs.size<=C:=by rw [hC];exact Nat.le_add_right _ _
 have hcs:s.heap.objs.size<=c:=by rw [hc];exact Nat.le_add_right _ _
 have hCD:C≠D:=by rw [hC,hD];exact Nat.succ_ne_self _
 have hcD:c≠D:=by rw [hc,hD];exact Nat.ne_of_gt (Nat.lt_add_of_pos_right (by decide))
 have ok:=Bc3 (C:=C) (c:=c) (fp:=fp) o I hCs hcs hf hb
 have hDn:H D=none:=by rw [hD];exact I.fresh
 have ltc:∀ x a,(clOf X.env.cells sc.names []).lookup x=some a->X.env.cells.lookup x=some a:=fun x a e=>Ct (o.cells I.ok) (fun z=>by simp at z) e
 have cel:∀ a v,s.heap.IsCell a v->h1.IsCell a v:=fun a v ⟨ob,ho,hd⟩=>⟨ob,k a ob ho,hd⟩
 have ltD:∀ a v,s.heap.IsCell a v->a≠D:=fun a v ⟨ob,ho,hd⟩=>by rw [hD];exact Nat.ne_of_lt (Heap.lt_size ho)
 refine⟨ok,rfl,I.bare,Un.laid k (by rw [hD];exact Nat.le_refl _) hDn,⟨_,hn,fun i x v e1 e2 e3=>?_⟩,fun x a e=>?_,?_,fun x a e=>?_,fun p hp=>absurd hp (by simp [Dx]),?_,?_⟩
 . have e2':cap[i]?.map (fun o=>o.bind fun j=>(σ[j]?).join)=some (some v):=by
    have:=e2
    unfold capS at this
    rw [List.getElem?_map] at this
    exact this
   cases hcp:cap[i]? with
   | none=>rw [hcp] at e2';cases e2'
   | some oo =>
     rw [hcp] at e2'
     cases oo with
     | none=>cases e2'
     | some j =>
       have e4:(σ[j]?).join=some v:=by simpa using e2'
       obtain⟨q0,q1,q2',q3⟩:=o.slots i j x e1 hcp
       have q2:(x,NameKind.free)∈sc.names:=(q2'.elim (fun z=>F1 o.own z (.inl rfl)) fun z=>F1 o.own z (.inr rfl)).resolve_right q0
       obtain⟨m,hm,hl'⟩:=I.loc
       have e5:σ[j]?=some (some v):=by
        cases z:σ[j]? with
        | none=>rw [z] at e4;cases e4
        | some y=>rw [z] at e4;cases y with
          | none=>cases e4
          | some y'=>cases e4;rfl
       obtain⟨u,r,l⟩:=hl' j x v q1 e5 q3
       refine⟨u,r,?_⟩
       obtain⟨a,ha⟩:=M4 (cells:=X.env.cells) (l:=sc.names) (acc:=[]) (x:=x) (.inl q2)
       have kd:X.env.kindOf x=some .cell\/X.env.kindOf x=some .free:=o.free x q2
       rcases l with ⟨hk,_⟩|⟨hk,a',ha',hcl⟩
       . rcases kd with z | z<;>rw [z] at hk<;>cases hk
       . have e6:a'=a:=by
          have:=ltc x a ha
          rw [ha'] at this
          exact Option.some.inj this
         refine .inr ⟨q2',a,?_,?_⟩
         . show ((xc,c)::_).lookup x=_
           rw [List.lookup_cons]
           have:(x==xc)=false:=by simpa using q0
           rw [this]
           exact ha
         . rw [←e6]
           exact cel _ _ hcl
 . rcases Aa3 e with ⟨_,rfl⟩|⟨_,e⟩
   . exact ⟨none,hcell⟩
   . obtain⟨v,z⟩:=I.cell x a (ltc x a e)
     exact ⟨v,cel a v z⟩
 . show upd H D (.lst []) C=none
   rw [An hCD]
   exact I.hok.fresh hCs
 . show upd H D (.lst []) a=none
   rcases Aa3 e with ⟨_,rfl⟩|⟨_,e⟩
   . rw [An hcD]
     exact I.hok.fresh hcs
   . obtain⟨v,z⟩:=I.cell x a (ltc x a e)
     rw [An (ltD a v z)]
     exact I.freeC x a (ltc x a e)
 . exact I.hok.laid k (by rw [hD];exact Nat.le_refl _) ⟨Nat.zero_le _,[],0,.nil,hl⟩
 . show (capS cap σ).length=N'.length
   unfold capS
   rw [List.length_map,o.len]
end
theorem newEnv_cell {M:Model}{A:Around}{E:Value->Shared->Prop}{s:Shared}{sc:Scope}{globals:Addr}{cl:List (Str × Addr)}{qual:Str}{env0:Env}{xc:Str}{Q:Env->Shared->Prop}
 (one:∀ n cl,cellsFrom n sc.names cl=(xc,n)::cl) (push:∀ h,pushCells h sc.names=h.push { cls:=.type "cell",data:=.cell none })
 (hQ:∀ h',h'.Ns s.heap.objs.size (fun _=>none)->h'.IsCell (s.heap.objs.size+1) none->(∀ b o,s.heap.get? b=some o->h'.get? b=some o) →
   Q { scope:=sc,locals:=s.heap.objs.size,globals:=globals,cells:=(xc,s.heap.objs.size+1)::cl,qual:=qual,func:=none,code:=env0.code,frame:=env0.frame,builtins:=env0.builtins } { s with heap:=h' }) :
 wpAny M A (newFunctionEnv sc globals cl [] qual none .none (some env0)) Q E s:=by
 unfold newFunctionEnv
 simp only [Option.isSome_some,if_true]
 refine wpAny_bind (wpAny_alloc ?_)
 refine wpAny_bind (wpAny_layCells _ (fun name kind cells=>by cases hkc:kind==NameKind.cell<;>simp [hkc]) _ _ _ _ ?_)
 have hsz:({ s with heap:=s.heap.push { cls:=.type "dict",data:=.dict #[] } }:Shared).heap.objs.size=s.heap.objs.size+1:=Heap.size_push ..
 rw [hsz,one,push]
 simp only [List.forIn_nil]
 refine wpAny_bind (wpAny_pure (wpAny_pure (hQ _ ?_ ?_ fun b o e=>Heap.get?_push_of_some _ (Heap.get?_push_of_some _ e))))
 . exact (Heap.Ns.new s.heap (.type "dict")).keeps fun b o e=>Heap.get?_push_of_some _ e
 . refine⟨{ cls:=.type "cell",data:=.cell none },?_,rfl⟩
   have:=Heap.get?_push_size (h:=s.heap.push { cls:=.type "dict",data:=.dict #[] }) (o:={ cls:=.type "cell",data:=.cell none }) rfl
   rw [Heap.size_push] at this
   exact this
section
variable {X:Cx}{sc:Scope}{N':List Str}{cap:List (Option Nat)}{xc:Str}{tg elt iter:Expr}{ifs:List Expr}{pos:Pos}{g:TG}{tc:TT}{te:TE}
theorem Ad3 {Ab:List (Addr × Obj)}{σ:St}{H:Hp}{s:Shared}{J:It}{fp:List Addr}{it:Addr}{tn:Nat->Heap->Prop}{RR:Value->Addr->Result->Shared->Prop}{Q:Addr->Hp->Prop}{E:Value->Shared->Prop}
 (o:Tz X sc N' cap xc) (hcm:X.calm=true) (hg:∀ C c s₀ H₀ fp,PG (Dx X sc N' xc C c s₀ H₀ fp) tg g) (ht:∀ C c s₀ H₀ fp,PTs (Dx X sc N' xc C c s₀ H₀ fp) ifs tc) (he:∀ C c s₀ H₀ fp,PE (Dx X sc N' xc C c s₀ H₀ fp) elt te)
 (I:Inv X Ab σ H s) (T:Turn X.prog X.w X.K tg J fp it tn) (st:tn 0 s.heap) (hf:∀ b∈fp,FpOk X Ab H b)
 (h:∀ D,H D=none->RunC J g tc te D (Q D) (capS cap σ) (upd H D (.lst [])))
 (hR:∀ D C s' H' m',H D=none->s.heap.objs.size<=C->s'.os=s.os->AllBare s'.gens->Un (frs X.stack) fp H H' s.heap s'.heap->HOk X.prog X.w H' s'.heap->s'.heap.Ns C m'->H' C=none->C ∉ fp->Q D H'->RR (.ref D) C (.ok .next) s') :
 wpAny (model X.prog X.w) X.A (newList []) (fun acc s₃=>wpAny (model X.prog X.w) X.A (newFunctionEnv sc X.env.globals (clOf X.env.cells sc.names []) [] X.env.qual none .none (some X.env)) (fun cenv s₄ =>
  codeAny (model X.prog X.w) X.A (.compStart (.ListComp elt [⟨tg,iter,ifs,0⟩] sc pos) 0 (.ref it) acc { cenv with scope:=relabel sc X.env }) (RR acc cenv.locals) s₄) E s₃) E s:=by
 have hb:∀ b∈fp,b<s.heap.objs.size:=fun b hb=>by
  obtain⟨ob,e,_⟩:=T.obj _ _ st b hb
  exact Heap.lt_size e
 refine wpAny_newObj_type (newEnv_cell o.one o.push (fun h₁ hns₁ hcell₁ hk₁=>?_))
 dsimp only at hns₁ hcell₁ hk₁ ⊢
 generalize hH2:s.heap.push { cls:=.type "list",dict:=none,data:=.seq ([]:List Value).toArray }=H2 at hns₁ hcell₁ hk₁ ⊢
 have hC:H2.objs.size=s.heap.objs.size+1:=by rw [←hH2,Heap.size_push]
 have hCl:s.heap.objs.size<=H2.objs.size:=by rw [hC];exact Nat.le_succ _
 have hcl:s.heap.objs.size<=H2.objs.size+1:=Nat.le_succ_of_le hCl
 have old:∀ b ob,s.heap.get? b=some ob->h₁.get? b=some ob:=fun b ob e=>hk₁ b ob (hH2▸Heap.get?_push_of_some _ e)
 have hl:h₁.get? s.heap.objs.size=some { cls:=.type "list",data:=.seq #[] 0 }:=hk₁ _ _ (hH2▸Heap.get?_push_size _ rfl)
 have I4:Inv (Dx X sc N' xc H2.objs.size (H2.objs.size+1) s H fp) [] (capS cap σ) (upd H s.heap.objs.size (.lst [])) { s with heap:=h₁ }:=A46 (t:=s.toks) o I rfl hC (by rw [hC]) hf hb hns₁ hcell₁ hl old
 have hfr:H s.heap.objs.size=none:=I.fresh
 have f4:∀ b∈fp,FpOk (Dx X sc N' xc H2.objs.size (H2.objs.size+1) s H fp) [] (upd H s.heap.objs.size (.lst [])) b:=fun b hb'=>by
  obtain⟨f0,f1,f2,f3,f4,f5⟩:=hf b hb'
  have lb:=hb b hb'
  refine⟨by rw [An (Nat.ne_of_lt lb)];exact f0,(Nat.ne_of_lt (Nat.lt_of_lt_of_le lb hCl):b≠H2.objs.size),fun z=>?_,.inl hb',fun x a e=>?_,fun p hp=>absurd hp (by simp [Dx])⟩
  . rcases List.mem_cons.mp (I.stkSub b z) with e | e
    . exact f1 e
    . exact f2 e
  . rcases Aa3 e with ⟨_,rfl⟩|⟨_,e⟩
    . exact Nat.ne_of_gt (Nat.lt_of_lt_of_le lb hcl)
    . exact f4 x a (Ct (o.cells I.ok) (fun z=>by simp at z) e)
 have st4:tn 0 h₁:=T.keep _ _ _ st fun b _ ob e=>old b ob e
 have loop:∀ s₅:Shared,s₅={ s with heap:=h₁ } →
  codeAny (model X.prog X.w) X.A (.compLoop (.ListComp elt [⟨tg,iter,ifs,0⟩] sc pos) 0 (.ref it) (.ref s.heap.objs.size) (Dx X sc N' xc H2.objs.size (H2.objs.size+1) s H fp).env) (RR (.ref s.heap.objs.size) H2.objs.size) s₅:=by
  rintro s₅ rfl
  refine e7 (Y:=Dx X sc N' xc H2.objs.size (H2.objs.size+1) s H fp) (J:=J) (fp:=fp) (tn:=tn) (Q:=Q s.heap.objs.size) rfl hcm (hg _ _ _ _ _) (ht _ _ _ _ _) (he _ _ _ _ _) T st4 f4 I4 (h _ hfr) fun τ' H' s' I' q'=>?_
  obtain⟨m',hn',_⟩:=I'.loc
  exact hR _ _ s' H' m' hfr hCl I'.os I'.bare I'.base I'.hok hn' I'.free (fun z=>absurd (Nat.lt_of_lt_of_le (hb _ z) hCl) (Nat.lt_irrefl _)) q'
 exact codeAny_compStart_list (loop _ rfl) (T.self _ 0 _ _ _ st4 (loop _ rfl))
theorem A82 {wi:TI}{i:Nat}{x:Str}{px spos:Pos} (hN:X.N.Nodup) (hi':X.N[i]?=some x) (hx:Loc X.env.scope x) (hcm:X.calm=true) (hcap:Bm6 X.env.scope X.N sc N' cap xc=true) (one:∀ n cl,cellsFrom n sc.names cl=(xc,n)::cl) (push:∀ h,pushCells h sc.names=h.push { cls:=.type "cell",data:=.cell none }) (hi:PI X tg iter wi)
 (hg:∀ C c s₀ H₀ fp,PG (Dx X sc N' xc C c s₀ H₀ fp) tg g) (ht:∀ C c s₀ H₀ fp,PTs (Dx X sc N' xc C c s₀ H₀ fp) ifs tc) (he:∀ C c s₀ H₀ fp,PE (Dx X sc N' xc C c s₀ H₀ fp) elt te)
 (hsw:swapsWith (.ListComp elt [⟨tg,iter,ifs,0⟩] sc pos) (some (.Name x px)) spos.line X.env=pure true:=by rfl)
 (hs:∀ x,foldedSetIterable iter X.env x=pure x:=by intro _;rfl) (hf:X.fn x=true\/X.env.scope.names.lookup x=some .local:=by first | exact .inl rfl | exact .inr rfl | assumption) :
 PS X (.Assign [.Name x px] (.ListComp elt [⟨tg,iter,ifs,0⟩] sc pos) spos) (tAsg (Bf7 wi cap g tc te) (Ao6 i)):=by
 intro Ab s σ H D I h
 have o:Tz X sc N' cap xc:=Bc5 hcap one push
 rw [exec_Assign_Name_used _ _ _ _ hsw]
 refine wpAny_bind (wpAny_standAt (wpAny_bind ?_))
 show wpAny _ X.A (do let _ ←comprehension (.ListComp elt [⟨tg,iter,ifs,0⟩] sc pos) sc X.env _ (newList []) false (eval iter X.env) (some (assign (.Name x px) X.env))) _ _ s
 refine wpAny_bind (thn (wpAny_comprehension_free (use:=some (assign (.Name x px) X.env)) (Q:=fun _ s'=>SP X Ab D .next s') rfl hs (Oq (o.cells I.ok)) o.kind o.locals
  (thn (hi Ab s σ H _ I h) fun v s1 h1=>thn h1 fun itv s2 h2=>?_)) fun _ s' hq=>wpAny_pure (wpAny_pure hq))
 obtain⟨it,fp,tn,J,H2,e,I2,T,st2,f2,hW⟩:=h2
 subst e
 refine Ad3 (RR:=fun acc C=>compPost (model X.prog X.w) X.A X.xe (some (assign (.Name x px) X.env)) (fun _ s'=>SP X Ab D .next s') acc C) (Q:=fun A H'=>Ao6 i (.ref A) σ H' D.nx) o hcm hg ht he I2 T st2 f2 hW ?_
 intro A C s' H' m' hD hC hos hbare hun hok hn hHC hCf q
 have I3:Inv X Ab σ H' s':=I2.call' hos hun hok hbare (Inv.fpCh f2)
 have f3:FpOk X Ab H' C:=I2.fpOk hC hHC
 obtain⟨_,k1,_,k3,k4,k5⟩:=f3
 show wpAny _ X.A (assign (.Name x px) X.env (.ref A)) _ _ s'
 refine wpAny_assign_Name (Qd I3 hN hi' hx (v:=.ref A) rfl (fun s'' I'' ⟨a,hsb,ha⟩=>?_) hf)
 have hCa:C≠a:=by
  rcases ha with z | z
  . rw [z];exact k1
  . exact fun z'=>k4 x a z z'.symm
 refine⟨m',hn.sameBut hsb hCa,fun h' hsb'=>?_⟩
 have I4:Inv X Ab (σ.set i (some (.ref A))) H' { s'' with heap:=h' }:=I''.turned (t':=s''.toks) (fun b ob hb e=>(hsb'.2 b hb).trans e) hHC k1 k3 k4 k5
 exact ⟨_,H',I4,q⟩
end
end L2
namespace Hb
open PySem L2
section
variable {H H1:Hp}{a:Addr}{ms:Ms}{k v:Int}
theorem Bm0 (rd:Rd H a (.dK (cK ms))):DGet H a (.int k) ((lookI ms k).map V.int):=.inl ⟨cK ms,.inl k,rd,rfl,(Wc ms k).symm⟩
theorem Yj (rd:Rd H a (.dK (cK ms))) (h:lookI ms k=some v):DGet H a (.int k) (some (.int v)):=.inl ⟨cK ms,.inl k,rd,rfl,by rw [Wc,h];rfl⟩
theorem A25 (h:H a=some (.dK (cK ms))) (hl:ms.length<=1000000):DPut H a (.int k) (.int v) (upd H a (.dK (cK (putI ms k v)))):=by
 rw [←Bu4]
 exact .inl ⟨cK ms,.inl k,h,rfl,by unfold cK;rw [List.length_map];exact Du hl,rfl⟩
theorem A56 {i:Nat}{kk:Key}{x:V} (h:(cK ms)[i]?=some (kk,x)):∃ p:Int × Int,ms[i]?=some p/\kk=.inl p.1/\x=.int p.2:=by
 unfold cK at h
 rw [List.getElem?_map] at h
 cases e:ms[i]? with
 | none=>rw [e] at h;cases h
 | some p =>
   rw [e] at h
   have:=Option.some.inj h
   simp only [Prod.mk.injEq] at this
   exact ⟨p,rfl,this.1.symm,this.2.symm⟩
theorem O7:(cK ms).length=ms.length:=by unfold cK;rw [List.length_map]
theorem Bc7 {o:HO} (h:H a=some o):upd H a o=H:=by
 funext b
 by_cases e:b=a
 . rw [e,Ae,h]
 . rw [An e]
theorem Ag0 {x:HO}{D:Addr} (h:(upd H a x) D=none):H D=none/\D≠a:=by
 have n:D≠a:=fun z=>by rw [z,Ae] at h;cases h
 rw [An n] at h
 exact ⟨h,n⟩
end
def newC (H:Hp) (ms:Ms) (Q:V->Hp->Prop):Prop:=∀ (D:Addr) (H':Hp),H D=none->Same H H'->H' D=some (.dK (cK ms))->Q (.ref D) H'
section
variable (K:W.Frag)
def Jk (_K:W.Frag):Sp:=fun vs H Q _=>∃ (a:Addr) (ms:Ms) (k n:Int),vs=[.ref a,.int k,.int n]/\H a=some (.dK (cK ms))/\ms.length<=1000000/\Q .non (upd H a (.dK (cK (addI ms k n))))
def m9 (_K:W.Frag):Sp:=fun vs H Q _=>∃ (a b:Addr) (ms ns:Ms),vs=[.ref a,.ref b]/\Rd H a (.dK (cK ms))/\H b=some (.dK (cK ns))/\ms.length<=1000/\ns.length<=1000/\newC H (Ed ms ns) Q
def Wu (_K:W.Frag):Sp:=fun vs H Q _=>∃ (n:Int) (a:Addr) (ms:Ms),vs=[.int n,.ref a]/\H a=some (.dK (cK ms))/\ms.length<=1000/\(∀ p∈ms,IntMulOk n p.2)/\newC H (Bq n ms) Q
end
end Hb
namespace Hb
open PySem L2
def modI (p:Int) (ms:Ms):Ms:=(ms.filter fun q=>decide (q.2%p≠0)).map fun q=>(q.1,q.2%p)
def Bn (ms:Ms):List Int:=ms.map (·.1)
theorem Ba8 {p:Int}{ms:Ms}{x:Int} (h:x∈Bn (modI p ms)):x∈Bn ms:=by
 unfold Bn modI at h
 rw [List.map_map] at h
 obtain⟨q,hq,rfl⟩:=List.mem_map.mp h
 exact List.mem_map.mpr ⟨q,(List.mem_filter.mp hq).1,rfl⟩
theorem Bd8 {p:Int}{ms:Ms} (h:nd ms):nd (modI p ms):=by
 unfold nd modI
 rw [List.map_map]
 exact (List.filter_sublist.map _).nodup h
theorem L5 {p:Int}:∀{ms:Ms},nd ms->∀ k,getI (modI p ms) k=getI ms k%p
 | [],_,k=>by simp [modI,getI,lookI]
 | q::ms,h,k=>by
   have h2:nd ms:=(List.nodup_cons.mp h).2
   have h1:q.1 ∉ ms.map (·.1):=(List.nodup_cons.mp h).1
   have ih:=L5 (p:=p) h2 k
   rw [J5]
   unfold modI at ih ⊢
   by_cases hq:q.2%p≠0
   . rw [List.filter_cons_of_pos (by simpa using hq),List.map_cons,J5]
     by_cases hk:q.1=k
     . rw [if_pos hk,if_pos hk]
     . rw [if_neg hk,if_neg hk];exact ih
   . rw [List.filter_cons_of_neg (by simpa using hq),ih]
     by_cases hk:q.1=k
     . rw [if_pos hk,←hk,E9 h1]
       have:q.2%p=0:=by simpa using hq
       rw [this];simp
     . rw [if_neg hk]
structure OkM (p:Int) (ms:Ms):Prop where
 nd:nd ms
 bd:∀ q∈ms,0<q.2/\q.2<p
theorem OkM.nz {p:Int}{ms:Ms} (h:OkM p ms):nz ms:=fun q hq=>by have:=(h.bd q hq).1;omega
theorem Ay5 {p:Int}{ms:Ms} (h:nd ms) (hp:0<p):OkM p (modI p ms):=by
 refine⟨Bd8 h,fun q hq=>?_⟩
 obtain⟨r,hr,rfl⟩:=List.mem_map.mp hq
 have h1:r.2%p≠0:=by simpa using (List.mem_filter.mp hr).2
 have h2:=Int.emod_nonneg r.2 (show p≠0 by omega)
 have h3:=Int.emod_lt_of_pos r.2 hp
 exact ⟨by omega,h3⟩
theorem Bj9 (p:Int) (ms:Ms):(modI p ms).length<=ms.length:=by
 unfold modI
 rw [List.length_map]
 exact List.length_filter_le ..
theorem Ab7 {ms:Ms} (h:nz ms) {k:Int}:getI ms k≠0↔k∈Bn ms:=by
 constructor
 . intro hk
   by_cases hm:k∈ms.map (·.1)
   . exact hm
   . exact absurd (E9 hm) hk
 . intro hk hz
   have e:=Ba9 h k
   rw [if_pos hz] at e
   obtain⟨q,hq,rfl⟩:=List.mem_map.mp hk
   unfold lookI at e
   cases hf:ms.find? (fun p=>decide (p.1=q.1)) with
   | none=>exact absurd (List.find?_eq_none.mp hf q hq) (by simp)
   | some r=>rw [hf] at e;simp at e
theorem J4 (n:Int):∀ (ms:Ms) (k:Int),getI (Bq n ms) k=n*getI ms k:=fun ms k=>by
 unfold Bq
 by_cases hn:n=0
 . rw [if_pos hn,hn];simp [getI,lookI]
 . rw [if_neg hn]
   induction ms with
   | nil=>simp [getI,lookI]
   | cons q ms ih =>
     rw [List.map_cons,J5,J5,ih]
     split<;>rfl
structure Top (ms:Ms) (b:Int):Prop where
 mem:b∈Bn ms
 le:∀ x∈Bn ms,x<=b
theorem Top.one {ms:Ms}{b c:Int} (h1:Top ms b) (h2:Top ms c):b=c:=by
 have:=h1.le c h2.mem
 have:=h2.le b h1.mem
 omega
theorem r6 {p f b:Int}{es fs:Ms} (hp:0<p) (he:OkM p es) (hf:OkM p fs) (te:Top es b) (tf:Top fs b) (hinv:p∣1-f*getI fs b) :
 OkM p (modI p (Ed es (Bq (-(getI es b)*f) fs)))/\∀ x∈Bn (modI p (Ed es (Bq (-(getI es b)*f) fs))),x<b/\(x∈Bn es\/x∈Bn fs):=by
 have ndt:nd (Bq (-(getI es b)*f) fs):=by
  unfold Bq
  split
  . exact List.nodup_nil
  . exact Kt hf.nd _
 obtain⟨n1,n2,n3,n4⟩:=L3 (Bq (-(getI es b)*f) fs) es he.nd he.nz ndt
 have gt:∀ k,getI (Bq (-(getI es b)*f) fs) k=(-(getI es b)*f)*getI fs k:=fun k=>J4 _ fs k
 have ok:=Ay5 n1 hp
 refine⟨ok,fun x hx=>?_⟩
 have hx0:=(Ab7 ok.nz).mpr hx
 rw [L5 n1,n4,gt] at hx0
 have hin:x∈Bn es\/x∈Bn fs:=by
  by_cases h1:x∈Bn es
  . exact .inl h1
  by_cases h2:x∈Bn fs
  . exact .inr h2
  . rw [E9 h1,E9 h2] at hx0
    simp at hx0
 refine⟨?_,hin⟩
 have hle:x<=b:=by
  rcases hin with h | h
  . exact te.le x h
  . exact tf.le x h
 have hne:x≠b:=fun z=>by
  rw [z] at hx0
  apply hx0
  obtain⟨d,hd⟩:=hinv
  have:getI es b+-getI es b*f*getI fs b=p*(getI es b*d):=by
   have e:getI es b+-getI es b*f*getI fs b=getI es b*(1-f*getI fs b):=by grind
   rw [e,hd];grind
  rw [this]
  exact Int.mul_emod_right _ _
 omega
end Hb
namespace L2
open PySem PySem.Spec PyProof.Rows PySem.W
structure A66 (P:Program) (w:World) (K:Frag) (mg:Str->Option Value) (base:Heap) (C:Addr) (m:Str) (ps:List Str) (k:Nat) (sp:Sp):Prop where
 ex:∃ (f:Addr) (fd:FuncData),Meth K C m f/\Gi K fd ps []/\FnOk P w K mg base (CX1 P w) k f fd ps sp
def Bn9 (C:Addr) (m:Str) (sp:Sp) (J:XJ) (ta:TE) (t:TA):TE:=fun σ H Q=>ta σ H fun x H1=>∃ a dx fs,x=.ref a/\H1 a=some (.ins C dx fs)/\fs.lookup m=none ∧
 t σ H1 fun vs H2=>sp (x::vs) H2 Q (fun cls ed H3=>J cls ed σ H3)
section
variable {X:Cx}{J:XJ}{j k:Nat}{C:Addr}{ps:List Str}{sp:Sp}{m:Str}{pos apos:Pos}{e o:Expr}{es:List Expr}{ta:TE}{t:TA}
theorem Af0 {pl:Sem Bool} (hx:Y0 X J) (he:PE X o ta) (c:Cls X.K C) (h:A66 X.prog X.w X.K X.mg X.base C m ps j sp) (hr:Room k X.A) (ha:PA X (e::es) t) (hk:j<=k:=by decide)
 (hst:starEach (e::es) X.env=(false,eval e X.env)::starEach es X.env:=by rfl) (hpl:(backTo pos (starEach es X.env)).any (·.1)=false:=by rfl)
 (ht:eval (.Call (.Attribute o m apos) (e::es) [] pos) X.env=(do
   let ov ←eval o X.env
   standAt apos.atName
   let (f,first) ←holding [ov] (getMethod ov m pl)
   callWith pos f first (backTo pos (starEach (e::es) X.env)) (backToKw pos (keywordEach [] X.env))):=by rfl) :
 PE X (.Call (.Attribute o m apos) (e::es) [] pos) (Bn9 C m sp J ta t):=by
 obtain⟨f,fd,hm,hb,F⟩:=h.ex
 intro Ab s σ H Q I hw
 refine methodCall_KW (pl:=pl) (thn (he Ab s σ H _ I hw) fun u s1 ⟨x,H1,I1,rx,a,dx,fs,ex,ea,l,q⟩=>?_) ht
 subst ex
 obtain rfl:u=Value.ref a:=rx
 refine G5 I1 ea c hm l ?_
 refine callWith_K (first:=[.ref a]) (h₀:=X.base) I.ok.mod.kin hm.kp (thn (ha pos Ab s1 σ H1 _ I1 q) fun us s2 ⟨vs,H2,I2,r,q2⟩=>⟨I2.kIn,?_⟩) hst hpl
 exact Au0 (us:=.ref a::us) (vs:=.ref a::vs) F (hr.mono hk) hb hx I2 (.cons rfl r) q2
end
end L2
namespace L2
open PySem PySem.Spec PyProof.Rows PySem.SeqAt
section
variable {X:Cx}
section
variable {o e:Expr}{es:List Expr}{to:TE}{t:TA}{name:Str}{apos cpos:Pos}{id:String}{r:V->List V->Hp->VK->Prop}
end
end
end L2
namespace L2
open PySem PySem.Spec PyProof.Rows
def Bk8:Expr->Option Int
 | .Constant (.int i) _ _=>some i
 | _=>none
def Z9:List Expr->Option (List Int)
 | []=>some []
 | e::es=>match Bk8 e,Z9 es with
   | some i,some is=>some (i::is)
   | _,_=>none
def Bo2 (ns:List Int):TA:=fun _ H Q=>Q (ns.map V.int) H
theorem Av9 {X:Cx}:∀{es:List Expr}{ns:List Int},Z9 es=some ns->PA X es (Bo2 ns)
 | [],ns,h=>by
   cases h
   exact Ah
 | e::es,ns,h=>by
   unfold Z9 at h
   cases e1:Bk8 e with
   | none=>rw [e1] at h;cases h
   | some i =>
     cases e2:Z9 es with
     | none=>rw [e1,e2] at h;cases h
     | some is =>
       rw [e1,e2] at h
       cases h
       unfold Bk8 at e1
       split at e1
       case h_2=>cases e1
       case h_1 =>
        cases e1
        exact Aa Ak (Av9 e2)
end L2
namespace L2
open PySem PySem.Spec PyProof.Rows
structure PAw (X:Cx) (es:List Expr) (t:TA):Prop where
 h:PA X es t
theorem Bi3 {X:Cx}:PAw X [] tNil:=⟨Ah⟩
theorem D5 {X:Cx}{e:Expr}{es:List Expr}{te:TE}{t:TA} (ha:PE X e te) (hr:PAw X es t) (hs:starEach (e::es) X.env=(false,eval e X.env)::starEach es X.env:=by rfl):PAw X (e::es) (Bo6 te t):=⟨Aa ha hr.h hs⟩
theorem A95 {X:Cx}{es:List Expr}{ns:List Int} (h:Z9 es=some ns):PAw X es (Bo2 ns):=⟨Av9 h⟩
theorem A81 {X:Cx}{K:W.Frag}{c sl:Expr}{es:List Expr}{k:Nat}{p q r z:Pos}{rest:List Stmt}{tc:TT}{ta:TA}{tsl:TE}{tr:TS} (hc:PT X c tc) (ha:PAw X es ta) (hsl:PE X sl tsl) (hpi:Ae1 sl) (hr:PSs X rest tr) (hK:X.K=K:=by rfl) :
 PSs X (.If c [.Return (some (.Subscript (.Tuple es k p) sl q)) r] [] z::rest) (tSeq (tIfS tc (tRet (tOp (rIxT K) (tTup ta) tsl)) Bn7) tr):=by
 subst hK
 exact Ai (Bu hc (Am (Bb (Bx Bm (Cj ha.h) hsl hpi))) Be) hr
end L2
namespace Hb
open PySem L2
def Ae2 (xs:List (List Int)):Prop:=∀ x∈xs,x.length=0\/x.length=2\/x.length=3\/x.length=4
theorem Ef {α:Type}{l:List α}{i:Nat}{d:α} (h:i<l.length):l.getD i d∈l:=by
 rw [List.getD_eq_getElem?_getD,List.getElem?_eq_getElem h]
 exact List.getElem_mem h
theorem Ae2.at {xs:List (List Int)} (h:Ae2 xs) {f:Int} (h0:0<=f) (h1:f<(xs.length:Int)):(xs.getD f.toNat []).length=0\/(xs.getD f.toNat []).length=2\/(xs.getD f.toNat []).length=3\/(xs.getD f.toNat []).length=4:=h _ (Ef (by omega))
section
variable (K:W.Frag)
def Mo (_K:W.Frag):Sp:=fun vs H Q _=>∃ (c j m:Int),vs=[.int c,.int j,.int m]/\0<m/\∀ (r:Int) (H':Hp),Same H H'->0<=r->r<m->Q (.int r) H'
def Qj:Sp:=fun vs H Q _=>∃ (a:Addr) (xs:List (List Int)) (c:Int),vs=[.ref a,.int c]/\LT K H (.ref a) xs/\xs.length<=1000/\∀ (w:V) (p:List Int) (H':Hp),Same H H'->TI K H' w p->Q w H'
def Qk:Sp:=fun vs H Q _=>∃ (a:Addr) (xs:List (List Int)) (c:Int),vs=[.ref a,.int c]/\LT K H (.ref a) xs/\Ae2 xs/\xs.length<=1000/\∀ (w:V) (p:List Int) (H':Hp),Same H H'->TI K H' w p->Q w H'
end
end Hb
namespace Hb
open PySem L2
theorem O8 {sp:List Int}{x:Int} (h0:0<=x) (h1:x<(sp.length:Int)):atI (sp.map V.int) x=some (.int (sp.getD x.toNat 0)):=by
 obtain⟨j,rfl⟩:=Int.eq_ofNat_of_zero_le h0
 have hj:j<sp.length:=by omega
 rw [Int.toNat_natCast]
 exact Ei (by rw [List.getElem?_map,List.getElem?_eq_getElem hj,List.getD_eq_getElem?_getD,List.getElem?_eq_getElem hj];rfl)
end Hb
namespace Hb
end Hb
namespace Hb
open PySem L2
section
variable {K:W.Frag}{H:Hp}
end
section
variable (K:W.Frag)
end
end Hb
namespace L2
open PySem PySem.Spec PyProof.Rows
abbrev TJ:=St->Hp->(Hp->Prop)->Prop
def tJN:TJ:=fun _ H Q=>Q H
def tJC (te:TE) (tj:TJ):TJ:=fun σ H Q=>te σ H fun v H1=>∃ y:Str,v=.str y/\y.length<=100000/\tj σ H1 Q
def PJ (X:Cx) (es:List Expr) (tj:TJ):Prop:=∀ (Ab:List (Addr × Obj)) (s:Shared) (σ:St) (H:Hp) (acc:Str) (Q:Hp->Prop),Inv X Ab σ H s->acc.length+100000*es.length<=1000000->tj σ H Q →
 Joins (model X.prog X.w) X.A X.xe (evalEach es X.env) acc (fun out s'=>out.length<=1000000/\∃ H',Inv X Ab σ H' s'/\Q H') s
theorem Vx {M:Model}{A:Around}{E:Value->Shared->Prop}:∀{parts:List (Sem Value)}{acc:Str}{Q Q':Str->Shared->Prop}{s:Shared},Joins M A E parts acc Q s->(∀ x s,Q x s->Q' x s)->Joins M A E parts acc Q' s
 | [],acc,Q,Q',s,h,f=>f _ _ h
 | x::rest,acc,Q,Q',s,h,f=>wpAny_mono (show wpAny M A x _ E s from h) (fun v s1 ⟨y,t,e,hz,hr⟩=>⟨y,t,e,hz,Vx hr f⟩) fun _ _ z=>z
section
variable {X:Cx}{e v₁ v₂:Expr}{es rest:List Expr}{te:TE}{tj:TJ}{pos:Pos}
theorem Bd2:PJ X [] tJN:=fun Ab s σ H acc Q I hl h=>⟨by simpa using hl,H,I,h⟩
theorem Xi (he:PE X e te) (hr:PJ X es tj):PJ X (e::es) (tJC te tj):=by
 intro Ab s σ H acc Q I hl h
 show wpAny _ _ (eval e X.env) _ _ s
 refine thn (he Ab s σ H _ I h) fun u s1 ⟨v,H1,I1,r,y,ev,hy,q⟩=>?_
 subst ev
 obtain⟨t,rfl⟩:=r
 have hl2:(acc++y).length=acc.length+y.length:=strLen_append ..
 have hl3:acc.length+100000*(es.length+1)<=1000000:=hl
 refine⟨y,t,rfl,?_,hr Ab s1 σ H1 (acc++y) Q I1 (by rw [hl2];omega) q⟩
 rw [hl2,sizeLine_eq]
 omega
def Bv1 (tj:TJ):TE:=fun σ H Q=>tj σ H fun H'=>∀ x:Str,x.length<=1000000->Q (.str x) H'
theorem Av8 (h:PJ X (v₁::v₂::rest) tj) (hl:rest.length<=7:=by decide):PE X (.JoinedStr (v₁::v₂::rest) pos) (Bv1 tj):=by
 intro Ab s σ H Q I hw
 refine wpAny_JoinedStr (Vx (h Ab s σ H Str.empty _ I ?_ hw) fun out s' ⟨hz,H',I',q⟩=>⟨?_,.str out,H',I'.tok _,⟨_,rfl⟩,q out hz⟩)
 . show 0+100000*(rest.length+2)<=1000000
   omega
 . rw [sizeLine_eq];omega
def tFmt (te:TE):TE:=fun σ H Q=>te σ H fun v H1=>(∃ i:Int,v=.int i/\i.natAbs.log2<1920/\∀ x:Str,x.length<=100000->Q (.str x) H1)\/∃ x:Str,v=.str x/\x.length<=100000/\Q (.str x) H1
theorem Bd5 (he:PE X e te):PE X (.FormattedValue e (-1) none pos) (tFmt te):=by
 intro Ab s σ H Q I hw
 refine wpAny_FormattedValue_plain (thn (he Ab s σ H _ I hw) fun u s1 ⟨v,H1,I1,r,q⟩=>?_)
 rcases q with ⟨i,rfl,hi,q⟩|⟨x,rfl,hx,q⟩
 . obtain⟨t,rfl⟩:=r
   refine PySem.wpAny_formatField_int hi ⟨.str (toString i),H1,I1.tok _,⟨_,rfl⟩,q _ ?_⟩
   have:=int_text_length_le (k:=1920) (by decide) hi
   rw [PySem.ofString_length]
   omega
 . obtain⟨t,rfl⟩:=r
   exact PySem.wpAny_formatField_str ⟨.str x,H1,I1,⟨_,rfl⟩,q⟩ ⟨.str x,H1,I1.tok _,⟨_,rfl⟩,q⟩ (by rw [sizeLine_eq];omega)
end
end L2
namespace Hb
open PySem L2
section
variable (K:W.Frag)
end
end Hb
namespace L2
open PySem PySem.Spec PyProof.Rows PySem.SeqAt
section
variable {X:Cx}{n:Nat}{K:W.Frag}
end
end L2
namespace L2
open PySem PySem.Spec PyProof.Rows
section
variable {prog:Program}{w:World}{A:Around}{E:Value->Shared->Prop}{s:Shared}
theorem Fn {j t:Addr}{n:Nat}{vs:Array Value}{x:Value}{Q:Value->Shared->Prop} (g:s.heap.IsTupleIter j t n) (gt:s.heap.IsTuple t vs) (gx:vs[n]?=some x)
 (k:∀ h',h'.IsTupleIter j t (n+1)->Heap.SameBut j s.heap h'->Q x { s with heap:=h' }):wpAny (model prog w) A (Builtin.SmallTypes.nextOf (.ref j)) Q E s:=by
 obtain⟨o,q1,q2,q3⟩:=id g
 obtain⟨p,p1,_,m,p2⟩:=gt
 unfold Builtin.SmallTypes.nextOf;refine wpAny_bind (wpAny_callSpecial?_slot (name:=Str.ofString "__next__") g.typeIs F.slot_tuple_iterator_next (wpAny_call_entry F.slot_tuple_iterator_next g.typeIs F.entry_tuple_iterator_next ?_ (F.args_tuple_iterator_next_1 _)))
 show wpAny _ _ (field (.ref j) 0>>=_) _ _ s;refine wpAny_bind (wpAny_field q1 q3 (x:=.ref t) rfl ?_)
 show wpAny _ _ (if (Value.ref t==Value.none)=true then _ else _) _ _ s;rw [if_neg (show ¬((Value.ref t==Value.none)=true) from Bool.false_ne_true)]
 show wpAny _ _ (field (.ref j) 1>>=_) _ _ s;refine wpAny_bind (wpAny_field q1 q3 (x:=.int n 0) rfl ?_)
 show wpAny _ _ (seqItems? (.ref t)>>=_) _ _ s;refine wpAny_bind (wpAny_seqItems p1 p2 ?_)
 simp only [Int.toNat_natCast,gx]
 refine wpAny_bind (wpAny_setField q1 q3 (by simp) (wpAny_pure ⟨x,rfl,wpAny_pure (k _ ?_ (Heap.SameBut.update ..))⟩))
 exact ⟨_,Heap.get?_update_self _ q1 (Obj.isFreed_of_fields (Obj.data_mapFields q3 _)),(Obj.cls_mapFields ..).trans q2,by rw [Obj.data_mapFields q3];simp [rawInt]⟩
theorem Lc {j t:Addr}{n:Nat}{vs:Array Value}{Q:Value->Shared->Prop} (hn:A.handled=none) (g:s.heap.IsTupleIter j t n) (gt:s.heap.IsTuple t vs) (gx:vs[n]?=none)
 (k:∀ h' e,Heap.ExtBut j s.heap h'->(∃ o,h'.get? e=some o/\o.cls=.type "StopIteration")->E (.ref e) { s with heap:=h' }):wpAny (model prog w) A (Builtin.SmallTypes.nextOf (.ref j)) Q E s:=by
 obtain⟨o,q1,q2,q3⟩:=id g
 obtain⟨p,p1,_,m,p2⟩:=gt
 unfold Builtin.SmallTypes.nextOf;refine wpAny_bind (wpAny_callSpecial?_slot (name:=Str.ofString "__next__") g.typeIs F.slot_tuple_iterator_next (wpAny_call_entry F.slot_tuple_iterator_next g.typeIs F.entry_tuple_iterator_next ?_ (F.args_tuple_iterator_next_1 _)))
 show wpAny _ _ (field (.ref j) 0>>=_) _ _ s;refine wpAny_bind (wpAny_field q1 q3 (x:=.ref t) rfl ?_)
 show wpAny _ _ (if (Value.ref t==Value.none)=true then _ else _) _ _ s;rw [if_neg (show ¬((Value.ref t==Value.none)=true) from Bool.false_ne_true)]
 show wpAny _ _ (field (.ref j) 1>>=_) _ _ s;refine wpAny_bind (wpAny_field q1 q3 (x:=.int n 0) rfl ?_)
 show wpAny _ _ (seqItems? (.ref t)>>=_) _ _ s;refine wpAny_bind (wpAny_seqItems p1 p2 ?_)
 simp only [Int.toNat_natCast,gx]
 refine wpAny_bind (wpAny_rule (wpAny_bind (wpAny_setField q1 q3 (by simp) ?_)))
 show wpAny _ _ (newExc (.type "StopIteration") []>>=_) _ _ _;refine wpAny_bind ?_
 simp only [newExc,newTuple];refine wpAny_bind (wpAny_newObj_type ?_ (by size_fits))
 refine wpAny_bind (m:=firstArgMember _ _) (wpAny_of_eq (a:=Value.none) (by first | rfl | (simp only [firstArgMember];rfl)) ?_);refine wpAny_newObj_type ?_ (by size_fits)
 simp only [raiseNew];refine wpAny_bind (wpAny_handled ?_)
 first | rw [show A.in1.handled=none from hn] | rw [hn]
 refine wpAny_bind (wpAny_pure (wpAny_throw ?_));exact k _ _ (((Heap.SameBut.update ..).extBut.push _).push _) ⟨_,Heap.get?_push_size _ rfl,rfl⟩
theorem Ar6 {z a b i1 i2 t1 t2:Addr}{n m:Nat}{xs ys:Array Value}{x y u v:Value}{Q:Value->Shared->Prop} (D:ZipApart z a b i1 i2 t1 t2) (gz:IsZip s.heap z a b .none) (ga:IsPair s.heap a (.ref i1) (.ref i2)) (gb:IsPair s.heap b u v)
 (g1:s.heap.IsTupleIter i1 t1 n) (g2:s.heap.IsTupleIter i2 t2 m) (e1:s.heap.IsTuple t1 xs) (e2:s.heap.IsTuple t2 ys) (gx:xs[n]?=some x) (gy:ys[m]?=some y)
 (k:∀ h',IsZip h' z a b (rawInt s.heap.objs.size)->IsPair h' b x y->h'.IsTupleIter i1 t1 (n+1)->h'.IsTupleIter i2 t2 (m+1)->IsPair h' s.heap.objs.size x y->h'.objs.size=s.heap.objs.size+1 →
   (∀ c o,c≠z->c≠b->c≠i1->c≠i2->s.heap.get? c=some o->h'.get? c=some o)->Q (.ref s.heap.objs.size) { s with heap:=h' }) :
 wpAny (model prog w) A (Builtin.«zip.__next__» ⟨[.ref z],[]⟩) (fun fin s'=>∃ r,fin=.done (.ret r)/\Q r s') E s:=by
 show wpAny _ _ (field (.ref z) 2>>=_) _ _ _;refine wpAny_bind (wpAny_field gz rfl (x:=.bool false) rfl ?_)
 show wpAny _ _ (field (.ref z) 3>>=_) _ _ _;refine wpAny_bind (wpAny_field gz rfl (x:=.ref a) rfl ?_)
 refine wpAny_bind (wpAny_seqItems ga rfl ?_)
 show wpAny _ _ (Builtin.SmallTypes.ownedTupleIsFree (.ref z)>>=_) _ _ _;refine wpAny_bind ?_;unfold Builtin.SmallTypes.ownedTupleIsFree
 refine wpAny_bind (wpAny_field gz rfl (x:=.none) rfl (wpAny_pure ?_));simp only [if_true]
 refine wpAny_bind (wpAny_rule ?_);refine wpAny_bind (wpAny_field gz rfl (x:=.ref b) rfl ?_)
 refine wpAny_bind (wpAny_setField_rec gz (by simp) fun k1 gz1 w1=>?_)
 replace gz1:IsZip k1 z a b .ellipsis:=gz1
 refine wpAny_bind ?_;simp only [List.zipIdx_cons,List.zipIdx_nil,List.forIn_cons,List.forIn_nil]
 refine wpAny_bind (wpAny_bind (wpAny_onRaise ?_));show wpAny _ _ (Builtin.SmallTypes.nextOf (.ref i1)>>=_) _ _ _
 refine wpAny_bind (Fn (g1.extBut w1.extBut D.i1z) (e1.extBut w1.extBut D.l1z) gx fun k2 f1 w2=>wpAny_pure ?_)
 have gb2:IsPair k2 b u v:=w2.extBut _ _ D.TOi1 (w1.extBut _ _ D.TOz gb)
 refine wpAny_bind (wpAny_seqItems gb2 rfl ?_);refine wpAny_bind (wpAny_updateSeq_pair gb2 fun k3 gb3 w3=>?_)
 replace gb3:IsPair k3 b x v:=gb3
 refine wpAny_bind (wpAny_letGo (wpAny_pure ?_));refine wpAny_bind (wpAny_bind (wpAny_onRaise ?_));show wpAny _ _ (Builtin.SmallTypes.nextOf (.ref i2)>>=_) _ _ _
 refine wpAny_bind (Fn (((g2.extBut w1.extBut D.i2z).extBut w2.extBut D.i12.symm).extBut w3.extBut D.TOi2.symm) (((e2.extBut w1.extBut D.l2z).extBut w2.extBut D.l2i1).extBut w3.extBut D.l2TO) gy fun k4 f2 w4=>wpAny_pure ?_)
 have gb4:IsPair k4 b x v:=w4.extBut _ _ D.TOi2 gb3
 refine wpAny_bind (wpAny_seqItems gb4 rfl ?_);refine wpAny_bind (wpAny_updateSeq_pair gb4 fun k5 gb5 w5=>?_)
 replace gb5:IsPair k5 b x y:=gb5
 refine wpAny_bind (wpAny_letGo (wpAny_pure (wpAny_pure ?_)));refine wpAny_bind (wpAny_seqItems gb5 rfl ?_);refine wpAny_bind (wpAny_newTuple ?_)
 have sz:k5.objs.size=s.heap.objs.size:=by rw [w5.1,w4.1,w3.1,w2.1,w1.1]
 have gz5:IsZip k5 z a b .ellipsis:=w5.extBut _ _ D.TOz.symm (w4.extBut _ _ D.i2z.symm (w3.extBut _ _ D.TOz.symm (w2.extBut _ _ D.i1z.symm gz1)))
 have kp:∀ c o,c≠z->c≠b->c≠i1->c≠i2->s.heap.get? c=some o->k5.get? c=some o:=fun c o c1 c2 c3 c4 e=>w5.extBut _ _ c2 (w4.extBut _ _ c4 (w3.extBut _ _ c2 (w2.extBut _ _ c3 (w1.extBut _ _ c1 e))))
 have f15:k5.IsTupleIter i1 t1 (n+1):=((f1.extBut w3.extBut D.TOi1.symm).extBut w4.extBut D.i12).extBut w5.extBut D.TOi1.symm
 have f25:k5.IsTupleIter i2 t2 (m+1):=f2.extBut w5.extBut D.TOi2.symm
 have lz:z<k5.objs.size:=Heap.lt_size gz5
 show wpAny _ _ (Builtin.SmallTypes.ownedTupleHandOut (.ref z) (.ref k5.objs.size)>>=_) _ _ _;refine wpAny_bind ?_;unfold Builtin.SmallTypes.ownedTupleHandOut
 have gz6:IsZip (k5.push { cls:=.type "tuple",data:=.seq #[x,y] }) z a b .ellipsis:=Heap.get?_push_of_some _ gz5
 refine wpAny_bind (wpAny_setField_rec gz6 (by simp) fun k7 gz7 w7=>?_)
 replace gz7:IsZip k7 z a b (rawInt k5.objs.size):=gz7
 refine wpAny_setField_rec gz7 (by simp) fun k8 gz8 w8=>?_
 replace gz8:IsZip k8 z a b (rawInt k5.objs.size):=gz8
 have up:∀ c o,c≠z->k5.get? c=some o->k8.get? c=some o:=fun c o c1 e=>w8.extBut _ _ c1 (w7.extBut _ _ c1 (Heap.get?_push_of_some _ e))
 have gt:IsPair k8 k5.objs.size x y:=w8.extBut _ _ (Nat.ne_of_gt lz) (w7.extBut _ _ (Nat.ne_of_gt lz) (Heap.get?_push_size _ rfl))
 have s8:k8.objs.size=k5.objs.size+1:=by rw [w8.1,w7.1,Heap.size_push]
 rw [sz] at gz8 gt s8
 refine wpAny_pure ⟨_,rfl,?_⟩;show Q (.ref k5.objs.size) _;rw [sz]
 exact k k8 gz8 (up _ _ D.TOz gb5) (f15.at fun o e=>up _ o D.i1z e) (f25.at fun o e=>up _ o D.i2z e) gt s8 fun c o c1 c2 c3 c4 e=>up c o c1 (kp c o c1 c2 c3 c4 e)
theorem A71 {z a b i1 i2 t1 t2:Addr}{n m:Nat}{xs ys:Array Value}{u v:Value}{Q:PySem.Fin->Shared->Prop} (hn:A.handled=none) (D:ZipApart z a b i1 i2 t1 t2) (gz:IsZip s.heap z a b .none) (ga:IsPair s.heap a (.ref i1) (.ref i2)) (gb:IsPair s.heap b u v)
 (g1:s.heap.IsTupleIter i1 t1 n) (g2:s.heap.IsTupleIter i2 t2 m) (e1:s.heap.IsTuple t1 xs) (e2:s.heap.IsTuple t2 ys) (gx:xs[n]?=none)
 (k:∀ h' e,(∀ c o,c≠z->c≠b->c≠i1->c≠i2->s.heap.get? c=some o->h'.get? c=some o)->(∃ o,h'.get? e=some o/\o.cls=.type "StopIteration")->E (.ref e) { s with heap:=h' }) :
 wpAny (model prog w) A (Builtin.«zip.__next__» ⟨[.ref z],[]⟩) Q E s:=by
 show wpAny _ _ (field (.ref z) 2>>=_) _ _ _;refine wpAny_bind (wpAny_field gz rfl (x:=.bool false) rfl ?_)
 show wpAny _ _ (field (.ref z) 3>>=_) _ _ _;refine wpAny_bind (wpAny_field gz rfl (x:=.ref a) rfl ?_)
 refine wpAny_bind (wpAny_seqItems ga rfl ?_)
 show wpAny _ _ (Builtin.SmallTypes.ownedTupleIsFree (.ref z)>>=_) _ _ _;refine wpAny_bind ?_;unfold Builtin.SmallTypes.ownedTupleIsFree
 refine wpAny_bind (wpAny_field gz rfl (x:=.none) rfl (wpAny_pure ?_));simp only [if_true]
 refine wpAny_bind (wpAny_rule ?_);refine wpAny_bind (wpAny_field gz rfl (x:=.ref b) rfl ?_)
 refine wpAny_bind (wpAny_setField_rec gz (by simp) fun k1 gz1 w1=>?_)
 replace gz1:IsZip k1 z a b .ellipsis:=gz1
 refine wpAny_bind ?_;simp only [List.zipIdx_cons,List.zipIdx_nil,List.forIn_cons,List.forIn_nil]
 refine wpAny_bind (wpAny_bind (wpAny_onRaise ?_));show wpAny _ _ (Builtin.SmallTypes.nextOf (.ref i1)>>=_) _ _ _
 refine wpAny_bind (Lc hn (g1.extBut w1.extBut D.i1z) (e1.extBut w1.extBut D.l1z) gx fun k2 e w2 he=>?_)
 obtain⟨oe,ge,ce⟩:=he
 have gz2:IsZip k2 z a b .ellipsis:=w2 _ _ D.i1z.symm gz1
 have ne:e≠z:=fun q=>by subst q;rw [gz2] at ge;cases ge;simp at ce
 refine wpAny_setField_rec gz2 (by simp) fun k3 _ w3=>k k3 e (fun c o c1 _ c3 _ q=>w3.extBut _ _ c1 (w2 _ _ c3 (w1.extBut _ _ c1 q))) ⟨oe,w3.extBut _ _ ne ge,ce⟩
theorem Ux {z a b i1 i2 t1 t2:Addr}{n m:Nat}{xs ys:Array Value}{x y u v:Value}{Q:Option Value->Shared->Prop} (D:ZipApart z a b i1 i2 t1 t2) (gz:IsZip s.heap z a b .none) (ga:IsPair s.heap a (.ref i1) (.ref i2)) (gb:IsPair s.heap b u v)
 (g1:s.heap.IsTupleIter i1 t1 n) (g2:s.heap.IsTupleIter i2 t2 m) (e1:s.heap.IsTuple t1 xs) (e2:s.heap.IsTuple t2 ys) (gx:xs[n]?=some x) (gy:ys[m]?=some y)
 (k:∀ h',IsZip h' z a b (rawInt s.heap.objs.size)->IsPair h' b x y->h'.IsTupleIter i1 t1 (n+1)->h'.IsTupleIter i2 t2 (m+1)->IsPair h' s.heap.objs.size x y->h'.objs.size=s.heap.objs.size+1 →
   (∀ c o,c≠z->c≠b->c≠i1->c≠i2->s.heap.get? c=some o->h'.get? c=some o)->Q (some (.ref s.heap.objs.size)) { s with heap:=h' }):wpAny (model prog w) A (pyNext (.ref z)) Q E s:=by
 have ht:s.TypeIs (.ref z) "zip":=⟨_,gz,rfl⟩
 unfold pyNext
 exact wpAny_bind (wpAny_attempt (wpAny_callSpecial?_slot (name:=Str.ofString "__next__") ht F.slot_zip_next (wpAny_call_entry F.slot_zip_next ht F.entry_zip_next (Ar6 D gz ga gb g1 g2 e1 e2 gx gy fun h' a1 a2 a3 a4 a5 a6 a7=>wpAny_pure (k h' a1 a2 a3 a4 a5 a6 a7)) (F.args_zip_next_1 _))))
theorem X0 {z a b i1 i2 t1 t2:Addr}{n m:Nat}{xs ys:Array Value}{u v:Value}{Q:Option Value->Shared->Prop} (hn:A.handled=none) (D:ZipApart z a b i1 i2 t1 t2) (gz:IsZip s.heap z a b .none) (ga:IsPair s.heap a (.ref i1) (.ref i2)) (gb:IsPair s.heap b u v)
 (g1:s.heap.IsTupleIter i1 t1 n) (g2:s.heap.IsTupleIter i2 t2 m) (e1:s.heap.IsTuple t1 xs) (e2:s.heap.IsTuple t2 ys) (gx:xs[n]?=none)
 (k:∀ h',(∀ c o,c≠z->c≠b->c≠i1->c≠i2->s.heap.get? c=some o->h'.get? c=some o)->Q none { s with heap:=h' }):wpAny (model prog w) A (pyNext (.ref z)) Q E s:=by
 have ht:s.TypeIs (.ref z) "zip":=⟨_,gz,rfl⟩
 unfold pyNext
 refine wpAny_bind (wpAny_attempt (wpAny_callSpecial?_slot (name:=Str.ofString "__next__") ht F.slot_zip_next (wpAny_call_entry F.slot_zip_next ht F.entry_zip_next (A71 hn D gz ga gb g1 g2 e1 e2 gx fun h' e kp he=>?_) (F.args_zip_next_1 _))))
 obtain⟨o,q1,q2⟩:=he
 exact wpAny_bind (wpAny_isInstance (T:="StopIteration") (b:=true) ⟨o,q1,q2⟩ isSubtype_stop (wpAny_pure (k _ kp)))
end
abbrev zt1 (h:Heap) (a:Addr):Heap:=h.push { cls:=.type "tuple_iterator",data:=.fields #[.ref a,.int 0 0] }
abbrev zt2 (h:Heap) (a b:Addr):Heap:=(zt1 h a).push { cls:=.type "tuple_iterator",data:=.fields #[.ref b,.int 0 0] }
abbrev zt3 (h:Heap) (a b:Addr):Heap:=(zt2 h a b).push { cls:=.type "tuple",data:=.seq #[.ref h.objs.size,.ref (zt1 h a).objs.size] }
abbrev zt4 (h:Heap) (a b:Addr):Heap:=(zt3 h a b).push { cls:=.type "tuple",data:=.seq #[.none,.none] }
abbrev zt5 (h:Heap) (a b:Addr):Heap:=(zt4 h a b).push { cls:=.type "zip",data:=.fields #[.none,.bool false,.bool false,.ref (zt2 h a b).objs.size,.ref (zt3 h a b).objs.size] }
theorem A70 (a b:Addr) (xs ys:Array Value):Meets (Builtin.«zip.__new__» ⟨[.type "zip",.ref a,.ref b],[]⟩) (fun _ R s=>s.heap.IsTuple a xs/\s.heap.IsTuple b ys/\R (.ok (.ret (.ref (zt4 s.heap a b).objs.size))) { s with heap:=zt5 s.heap a b }) :=
 .of_wp fun prog w A R s h=>by
  obtain⟨hp,g,d,tk,os⟩:=s;obtain⟨h1,h2,h⟩:=h
  have hsub:=sub_zip
  have g1:Heap.IsTuple (Shared.heap ⟨hp,g,d,tk,os⟩) a xs:=h1
  have g2:Heap.IsTuple (Shared.heap ⟨hp.push { cls:=.type "tuple_iterator",data:=.fields #[.ref a,.int 0 0] },g,d,tk,os⟩) b ys:=Heap.IsTuple.push h2 _
  wp_walk using wpAny_pyIter_tuple g1,wpAny_pyIter_tuple g2
  exact ⟨_,rfl,h⟩
section
variable {prog:Program}{w:World}{A:Around}{E:Value->Shared->Prop}{s:Shared}
theorem A53 {a b:Addr}{xs ys:Array Value}{Q:Value->Shared->Prop} (h1:s.heap.IsTuple a xs) (h2:s.heap.IsTuple b ys)
 (k:∀ h',IsZip h' (s.heap.objs.size+4) (s.heap.objs.size+2) (s.heap.objs.size+3) .none->IsPair h' (s.heap.objs.size+2) (.ref s.heap.objs.size) (.ref (s.heap.objs.size+1)) →
   IsPair h' (s.heap.objs.size+3) .none .none->h'.IsTupleIter s.heap.objs.size a 0->h'.IsTupleIter (s.heap.objs.size+1) b 0->h'.objs.size=s.heap.objs.size+5 →
   (∀ c o,s.heap.get? c=some o->h'.get? c=some o)->Q (.ref (s.heap.objs.size+4)) { s with heap:=h' }):wpAny (model prog w) A (call (.type "zip") [.ref a,.ref b]) Q E s:=by
 refine callType_new F.called_zip (by decide) (F.typeCall_zip_2 _ _) (F.newCall_zip_2 _ _) (fun obj=>F.args_object_init_3 obj _ _) F.entry_zip_new (A70 a b xs ys) ⟨h1,h2,?_⟩
 have z1:(zt1 s.heap a).objs.size=s.heap.objs.size+1:=Heap.size_push ..
 have z2:(zt2 s.heap a b).objs.size=s.heap.objs.size+2:=by rw [Heap.size_push,z1]
 have z3:(zt3 s.heap a b).objs.size=s.heap.objs.size+3:=by rw [Heap.size_push,z2]
 have z4:(zt4 s.heap a b).objs.size=s.heap.objs.size+4:=by rw [Heap.size_push,z3]
 have z5:(zt5 s.heap a b).objs.size=s.heap.objs.size+5:=by rw [Heap.size_push,z4]
 have q5:(zt5 s.heap a b).get? (zt4 s.heap a b).objs.size=some _:=Heap.get?_push_size _ rfl
 have q4:(zt5 s.heap a b).get? (zt3 s.heap a b).objs.size=some _:=Heap.get?_push_of_some _ (Heap.get?_push_size _ rfl)
 have q3:(zt5 s.heap a b).get? (zt2 s.heap a b).objs.size=some _:=Heap.get?_push_of_some _ (Heap.get?_push_of_some _ (Heap.get?_push_size _ rfl))
 have q2:(zt5 s.heap a b).get? (zt1 s.heap a).objs.size=some _:=Heap.get?_push_of_some _ (Heap.get?_push_of_some _ (Heap.get?_push_of_some _ (Heap.get?_push_size _ rfl)))
 have q1:(zt5 s.heap a b).get? s.heap.objs.size=some _:=Heap.get?_push_of_some _ (Heap.get?_push_of_some _ (Heap.get?_push_of_some _ (Heap.get?_push_of_some _ (Heap.get?_push_size _ rfl))))
 show _/\_
 rw [z2,z3,z4] at q5
 rw [z1,z2] at q3
 rw [z3] at q4
 rw [z1] at q2
 rw [z4]
 exact ⟨⟨_,q5,rfl⟩,k _ q5 q3 q4 ⟨_,q1,rfl,rfl⟩ ⟨_,q2,rfl,rfl⟩ z5 fun c o x=>Heap.get?_push_of_some _ (Heap.get?_push_of_some _ (Heap.get?_push_of_some _ (Heap.get?_push_of_some _ (Heap.get?_push_of_some _ x))))⟩
end
def Ityp (K:W.Frag) (a b:Addr):It :=
 ⟨fun i H=>∃ xs ys x y,SqT K H a xs/\SqT K H b ys/\xs[i]?=some x/\ys[i]?=some y,
  fun i H v H'=>∃ p x y,H p=none/\v=.ref p/\H'=upd H p (.tup [x,y])/\(∀ xs,SqT K H a xs->xs[i]?=some x)/\∀ ys,SqT K H b ys->ys[i]?=some y,
  fun i H=>∃ xs ys,SqT K H a xs/\SqT K H b ys/\xs.length<=i⟩
theorem As1 {P:Program}{w:World}{K:W.Frag}{es:List Expr}{x1:Nat}{tpos:Pos} (a b z TI TO i1 i2:Addr) (D:ZipApart z TI TO i1 i2 a b) :
 Turn P w K (.Tuple es x1 tpos) (Ityp K a b) [z,TI,TO,i1,i2] z (fun i h=>IsZip h z TI TO .none/\IsPair h TI (.ref i1) (.ref i2)/\(∃ c d,IsPair h TO c d)/\h.IsTupleIter i1 a i/\h.IsTupleIter i2 b i) where
 mem:=by simp
 obj:=fun i h st c hc=>by
  obtain⟨hz,hTI,⟨u,v,hTO⟩,⟨o1,h1,c1,d1⟩,⟨o2,h2,c2,d2⟩⟩:=st
  simp only [List.mem_cons,List.not_mem_nil,or_false] at hc
  rcases hc with rfl | rfl | rfl | rfl | rfl
  . exact ⟨_,hz,fun v q=>by cases (show Data.fields _=Data.cell v from q)⟩
  . exact ⟨_,hTI,fun v q=>by cases (show Data.seq _ _=Data.cell v from q)⟩
  . exact ⟨_,hTO,fun v q=>by cases (show Data.seq _ _=Data.cell v from q)⟩
  . exact ⟨o1,h1,fun v q=>by rw [d1] at q;cases q⟩
  . exact ⟨o2,h2,fun v q=>by rw [d2] at q;cases q⟩
 keep:=fun i h h' st k=>by
  obtain⟨hz,hTI,⟨u,v,hTO⟩,h1,h2⟩:=st
  exact ⟨k z (by simp) _ hz,k TI (by simp) _ hTI,⟨u,v,k TO (by simp) _ hTO⟩,h1.at fun o q=>k i1 (by simp) o q,h2.at fun o q=>k i2 (by simp) o q⟩
 item:=by
  intro X hP hw hK hc i Ab s σ H E I hf st hg
  subst hP hw hK
  obtain⟨hz,hTI,⟨u0,v0,hTO⟩,h1,h2⟩:=st
  obtain⟨xs,ys,x,y,hqa,hqb,hx,hy⟩:=hg
  obtain⟨ia,ra,pa,_⟩:=I.tuple hqa
  obtain⟨ib,rb,pb,_⟩:=I.tuple hqb
  obtain⟨u,hu,ru⟩:=ra.get hx
  obtain⟨v,hv,rv⟩:=rb.get hy
  have hfresh:H s.heap.objs.size=none:=I.hok.fresh (Nat.le_refl _)
  have ltz:=Heap.lt_size hz
  refine Ux D hz hTI hTO h1 h2 (show s.heap.IsTuple a ia.toArray from pa) (show s.heap.IsTuple b ib.toArray from pb) (x:=u) (y:=v) (by simpa using hu) (by simpa using hv) fun h' hz' hTO' h1' h2' htup hsz hk=>?_
  refine⟨_,rfl,wpAny_letOwnedTupleGo_zip hz' fun h3 hz3 hsb=>?_⟩
  replace hsb:Heap.SameBut z h' h3:=hsb
  have kk:∀ c o,c ∉ [z,TI,TO,i1,i2]->s.heap.get? c=some o->h3.get? c=some o:=fun c o hc e=>by
   simp only [List.mem_cons,List.not_mem_nil,or_false,not_or] at hc
   obtain⟨n1,n2,n3,n4,n5⟩:=hc
   exact (hsb.2 c n1).trans (hk c o n1 n3 n4 n5 e)
  have ht3:h3.get? s.heap.objs.size=some { cls:=.type "tuple",data:=.seq #[u,v] }:=(hsb.2 _ (Nat.ne_of_gt ltz)).trans htup
  have hi1:h3.IsTupleIter i1 a (i+1):=h1'.at fun o e=>(hsb.2 i1 D.i1z).trans e
  have hi2:h3.IsTupleIter i2 b (i+1):=h2'.at fun o e=>(hsb.2 i2 D.i2z).trans e
  have hTI3:IsPair h3 TI (.ref i1) (.ref i2):=(hsb.2 TI D.TIz).trans (hk _ _ D.TIz D.TITO D.TIi1 D.TIi2 hTI)
  have hTO3:IsPair h3 TO u v:=(hsb.2 TO D.TOz).trans hTO'
  have ntr:∀ c o,H c=some o->c ∉ [z,TI,TO,i1,i2]:=fun c o e hm=>by rw [(hf c hm).1] at e;cases e
  have nsz:∀ c o,H c=some o->c≠s.heap.objs.size:=fun c o e=>A8 e hfresh
  refine⟨.ref s.heap.objs.size,upd H s.heap.objs.size (.tup [x,y]),?_,rfl,⟨s.heap.objs.size,x,y,hfresh,rfl,rfl,fun zs q=>by rw [I.tuple_inj q hqa];exact hx,fun zs q=>by rw [I.tuple_inj q hqb];exact hy⟩,⟨hz3,hTI3,⟨_,_,hTO3⟩,hi1,hi2⟩,fun c hc=>?_⟩
  . refine Inv.step (s:=s) (h':=h3) (t':=s.toks) (H':=upd H s.heap.objs.size (.tup [x,y])) I (g':=s.gens) (d':=s.drawn) (ch:=[z,TI,TO,i1,i2]) (fun c hc=>?_) (fun c o _ _ hc e _=>kk c o hc e) (fun c o _ _ hc e _=>⟨o.slots,kk c o hc e⟩) (fun c o hc e n=>?_) (fun c o hc e=>⟨o,kk c o hc e⟩)
     (fun c zs e=>by rw [An (nsz c _ e)];exact e) (fun c o w' e=>by rw [An (nsz c _ e)];exact e) (fun c ps e=>⟨#[],by rw [An (nsz c _ e),e];simp⟩) (fun m hm=>?_) (fun c w' e=>?_) I.bare
    . have f:=hf c hc
      exact ⟨f.2.2.2.1,f.2.1,f.2.2.2.2.1,f.2.2.2.2.2⟩
    . rw [An (Nat.ne_of_lt (Heap.lt_size e))]
      exact n
    . obtain⟨o,es',ep,ho,r⟩:=hm
      exact ⟨o,es',ep,kk _ o (fun q=>(hf _ q).2.1 rfl) ho,r⟩
    . by_cases hcs:c=s.heap.objs.size
      . subst hcs
        rw [Ae] at e
        cases e
        exact ⟨(by show (2:Nat)<=sizeLine;decide),[u,v],.cons ru (.cons rv .nil),⟨_,ht3,rfl,rfl,_,rfl⟩⟩
      . rw [An hcs] at e
        refine (I.hok c w' e).stay (fun c' y' hc' q=>?_) (fun c' q=>by rw [An (nsz c' _ q)];exact q) fun c' zs q=>by rw [An (nsz c' _ q)];exact q
        rcases hc' with rfl | hc'
        . exact kk _ _ (ntr _ _ e) q
        . exact kk _ _ (ntr _ _ hc') q
  . have lb:c<s.heap.objs.size:=by
     simp only [List.mem_cons,List.not_mem_nil,or_false] at hc
     obtain⟨o1,q1,_⟩:=h1
     obtain⟨o2,q2,_⟩:=h2
     rcases hc with rfl | rfl | rfl | rfl | rfl
     . exact ltz
     . exact Heap.lt_size hTI
     . exact Heap.lt_size hTO
     . exact Heap.lt_size q1
     . exact Heap.lt_size q2
    rw [An (Nat.ne_of_lt lb)]
    exact (hf c hc).1
 done:=by
  intro X hP hw hK hc i Ab s σ H E I hf st hg
  subst hP hw hK
  obtain⟨hz,hTI,⟨u0,v0,hTO⟩,h1,h2⟩:=st
  obtain⟨xs,ys,hqa,hqb,hx⟩:=hg
  obtain⟨ia,ra,pa,_⟩:=I.tuple hqa
  obtain⟨ib,rb,pb,_⟩:=I.tuple hqb
  have la:=ra.length
  have lb:=rb.length
  refine X0 (I.ok.hd hc) D hz hTI hTO h1 h2 (show s.heap.IsTuple a ia.toArray from pa) (show s.heap.IsTuple b ib.toArray from pb) ?_ fun h' hk=>⟨rfl,I.turnedN (t':=s.toks) (fp:=[z,TI,TO,i1,i2]) (fun c o hc e=>?_) hf⟩
  . simp;omega
  . simp only [List.mem_cons,List.not_mem_nil,or_false,not_or] at hc
    obtain⟨n1,n2,n3,n4,n5⟩:=hc
    exact hk c o n1 n3 n4 n5 e
 self:=fun _ _ _ _ _ st h=>wpAny_pyIter_zip st.1 h
def Bw5 (K:W.Frag) (ta:TA):TI:=fun σ H R=>ta σ H fun vs H1=>∃ a b,vs=[.ref a,.ref b]/\(∃ xs,SqT K H1 a xs)/\(∃ ys,SqT K H1 b ys)/\R (Ityp K a b) H1
theorem Aq7:bootBuiltins "zip"=some (.type "zip"):=by decide +kernel
theorem Bh3 {X:Cx}{K:W.Frag}{es:List Expr}{x1:Nat}{tpos:Pos}{a b:Expr}{ta:TA}{p pos:Pos} (hg:Gl X "zip") (hm:X.mg "zip"=none) (ha:PA X [a,b] ta) (hK:X.K=K:=by rfl) (hs:starEach [a,b] X.env=[(false,eval a X.env),(false,eval b X.env)]:=by rfl) (hs2:starEach [b] X.env=[(false,eval b X.env)]:=by rfl) :
 PI X (.Tuple es x1 tpos) (.Call (.Name "zip" p) [a,b] [] pos) (Bw5 K ta):=by
 subst hK
 intro Ab s σ H R I h
 refine Call_ (O2 I hg hm Aq7 (PyProof.Rows.callWith_type1 (thn (ha pos Ab s σ H _ I h) fun us s1 ⟨vs,H1,I1,r1,q1⟩=>?_) (by rw [hs,hs2]) (by rw [hs2];rfl)))
 obtain⟨la,lb,e,⟨xs,hqa⟩,⟨ys,hqb⟩,q⟩:=q1
 subst e
 cases r1 with
 | cons ra rr =>
   cases rr with
   | cons rb rr =>
     cases rr
     cases ra
     cases rb
     obtain⟨ia,_,pa,_⟩:=I1.tuple hqa
     obtain⟨ib,_,pb,_⟩:=I1.tuple hqb
     have a1:la<s1.heap.objs.size:=by obtain⟨_,e,_⟩:=pa;exact Heap.lt_size e
     have a2:lb<s1.heap.objs.size:=by obtain⟨_,e,_⟩:=pb;exact Heap.lt_size e
     refine A53 (show s1.heap.IsTuple la ia.toArray from pa) (show s1.heap.IsTuple lb ib.toArray from pb) fun h' hz hTI hTO hi1 hi2 hsz hk=>?_
     refine wpAny_pyIter_zip hz ⟨s1.heap.objs.size+4,[s1.heap.objs.size+4,s1.heap.objs.size+2,s1.heap.objs.size+3,s1.heap.objs.size,s1.heap.objs.size+1],_,_,H1,rfl,I1.kept (t':=s1.toks) hk,As1 la lb _ _ _ _ _ (zipApart_new a1 a2),⟨hz,hTI,⟨_,_,hTO⟩,hi1,hi2⟩,fun c hc=>?_,q⟩
     have lc:s1.heap.objs.size<=c:=by
      simp only [List.mem_cons,List.not_mem_nil,or_false] at hc
      rcases hc with rfl | rfl | rfl | rfl | rfl
      . exact Nat.le_add_right _ _
      . exact Nat.le_add_right _ _
      . exact Nat.le_add_right _ _
      . exact Nat.le_refl _
      . exact Nat.le_add_right _ _
     exact I1.fpOk lc (I1.hok.fresh lc)
section
variable {g:TG}{tc:TT}{te:TE}{D:Addr}{Q:Hp->Prop}{τ:St}{H:Hp}
theorem A45 {K:W.Frag}{a b:Addr}{xs ys:List V}{n:Nat} (hn:xs.length=n/\ys.length=n) (Pv:Nat->List V->St->Hp->Prop) (h0:Pv 0 [] τ H) (hl:∀ i zs τ H,i<=n->Pv i zs τ H->SqT K H a xs/\SqT K H b ys)
 (hs:∀ i x y zs τ H p,xs[i]?=some x->ys[i]?=some y->Pv i zs τ H->H p=none->g (.ref p) τ (upd H p (.tup [x,y])) fun τ2 H2=>tc τ2 H2 fun b H3=>if b=true then te τ2 H3 fun y H4=>H4 D=some (.lst zs)/\zs.length<sizeLine/\Pv (i+1) (zs++[y]) τ2 (upd H4 D (.lst (zs++[y]))) else Pv (i+1) zs τ2 H3)
 (hd:∀ zs τ H,Pv n zs τ H->Q H):RunC (Ityp K a b) g tc te D Q τ H:=by
 refine⟨fun i m zs τ H=>m=n-i/\i<=n/\Pv i zs τ H,⟨n,by simp,Nat.zero_le _,h0⟩,?_⟩
 rintro i m zs τ H ⟨rfl,hi,pp⟩
 obtain⟨qa,qb⟩:=hl i zs τ H hi pp
 by_cases hlt:i<n
 . refine .inr ⟨⟨xs,ys,xs[i],ys[i],qa,qb,by simp<;>omega,by simp<;>omega⟩,Pv (i+1),fun ys' τ' H' p'=>⟨n-(i+1),by omega,rfl,hlt,p'⟩,fun x H' y=>?_⟩
   obtain⟨p,u,v,hp,rfl,rfl,y1,y2⟩:=y
   exact hs i u v zs τ _ p (y1 xs qa) (y2 ys qb) pp hp
 . have e:i=n:=by omega
   subst e
   exact .inl ⟨⟨xs,ys,qa,qb,by omega⟩,hd zs τ H pp⟩
end
end L2
namespace L2
open PySem PySem.Spec PyProof.Rows
open AutoSeq1 (wpAny_loadPart')
theorem A24 (t:Addr) (vs:Array Value) (n:Nat) (dd:Option Addr) (sl:Array (Option Value)):Meets (Builtin.«enumerate.__new__» ⟨[.type "enumerate",.ref t],[]⟩) (fun _ R s=>s.heap.get? t=some { cls:=.type "tuple",dict:=dd,data:=.seq vs n,slots:=sl } ∧
 R (.ok (.ret (.ref (zt1 s.heap t).objs.size))) { s with heap:=(zt1 s.heap t).push { cls:=.type "enumerate",data:=.fields #[.none,.bool false,.ref s.heap.objs.size,rawInt 0,.none,.none] } }) :=
 .of_wp fun prog w A R s h=>by
  obtain⟨hp,g,d,tk,os⟩:=s;obtain⟨q1,q2⟩:=h
  have hsub:=sub_enumerate
  have gt:Heap.IsTuple (Shared.heap ⟨hp,g,d,tk,os⟩) t vs:=⟨_,q1,rfl,n,rfl⟩
  wp_walk using wpAny_loadPart' q1
  refine wpAny_stack_any fun st=>wpAny_pure ?_
  split
  . rename_i c _ _ _ _ _
    cases (c==Value.type "enumerate")
    . wp_walk using wpAny_loadPart' q1,wpAny_pyIter_tuple gt
      exact ⟨_,rfl,q2⟩
    . wp_walk using wpAny_loadPart' q1,wpAny_pyIter_tuple gt
      exact ⟨_,rfl,q2⟩
  . wp_walk using wpAny_loadPart' q1,wpAny_pyIter_tuple gt
    exact ⟨_,rfl,q2⟩
section
variable {prog:Program}{w:World}{A:Around}{E:Value->Shared->Prop}{s:Shared}
theorem Ao9 {e j t:Addr}{n:Nat}{vs:Array Value}{x old:Value}{Q:Value->Shared->Prop} (ge:IsEnum s.heap e j n old) (gj:s.heap.IsTupleIter j t n) (gt:s.heap.IsTuple t vs) (gx:vs[n]?=some x) (ne:e≠j)
 (k:∀ h',IsEnumOut h' e j ((n:Int)+1) x s.heap.objs.size->h'.IsTupleIter j t (n+1)->h'.get? s.heap.objs.size=some { cls:=.type "tuple",data:=.seq #[.int n s.toks,x] }->h'.objs.size=s.heap.objs.size+1 →
   (∀ b o,b≠e->b≠j->s.heap.get? b=some o->h'.get? b=some o)->Q (.ref s.heap.objs.size) { s with heap:=h',toks:=s.toks+1 }) :
 wpAny (model prog w) A (Builtin.«enumerate.__next__» ⟨[.ref e],[]⟩) (fun fin s'=>∃ r,fin=.done (.ret r)/\Q r s') E s:=by
 obtain⟨hp,g,d,tk,os⟩:=s
 show wpAny _ _ (field (.ref e) 2>>=_) _ _ _;refine wpAny_bind (wpAny_field ge rfl (x:=.ref j) rfl ?_)
 refine wpAny_bind (Fn gj gt gx fun k1 gj1 w1=>?_)
 replace w1:Heap.SameBut j hp k1:=w1
 have ge1:IsEnum k1 e j n old:=(w1.2 e ne).trans ge
 show wpAny _ _ (field (.ref e) 3>>=_) _ _ ⟨k1,g,d,tk,os⟩;refine wpAny_bind (wpAny_field ge1 rfl (x:=rawInt n) rfl ?_)
 show wpAny _ _ (field (.ref e) 4>>=_) _ _ ⟨k1,g,d,tk,os⟩;refine wpAny_bind (wpAny_field ge1 rfl (x:=.none) rfl ?_)
 show wpAny _ _ (mkInt n>>=_) _ _ ⟨k1,g,d,tk,os⟩;refine wpAny_bind (wpAny_mkInt ?_)
 show wpAny _ _ (setField (.ref e) 3 (rawInt ((n:Int)+1))>>=_) _ _ ⟨k1,g,d,tk+1,os⟩
 refine wpAny_bind (wpAny_setField_rec ge1 (by simp) fun k2 ge2 w2=>?_)
 replace w2:Heap.SameBut e k1 k2:=w2
 replace ge2:IsEnum k2 e j ((n:Int)+1) old:=ge2
 show wpAny _ _ (setField (.ref e) 4 .none>>=_) _ _ ⟨k2,g,d,tk+1,os⟩;refine wpAny_bind (wpAny_setField_rec ge2 (by simp) fun k3 ge3 w3=>?_)
 replace w3:Heap.SameBut e k2 k3:=w3
 replace ge3:IsEnum k3 e j ((n:Int)+1) old:=ge3
 show wpAny _ _ (newTuple [.int n tk,x]>>=_) _ _ ⟨k3,g,d,tk+1,os⟩;refine wpAny_bind (wpAny_newTuple ?_)
 have ge4:IsEnum (k3.push { cls:=.type "tuple",data:=.seq #[.int n tk,x] }) e j ((n:Int)+1) old:=Heap.get?_push_of_some _ ge3
 generalize hk4:k3.push { cls:=.type "tuple",data:=.seq #[.int n tk,x] }=k4 at ge4
 have sz:k3.objs.size=hp.objs.size:=by rw [w3.1,w2.1,w1.1]
 have le:e<hp.objs.size:=Heap.lt_size ge
 have gt4:k4.get? hp.objs.size=some { cls:=.type "tuple",data:=.seq #[.int n tk,x] }:=by rw [←hk4,←sz];exact Heap.get?_push_size _ rfl
 have sz4:k4.objs.size=hp.objs.size+1:=by rw [←hk4,Heap.size_push,sz]
 have kp4:∀ b o,b≠e->b≠j->hp.get? b=some o->k4.get? b=some o:=fun b o n1 n2 q=>by
  rw [←hk4];exact Heap.get?_push_of_some _ (w3.extBut b o n1 (w2.extBut b o n1 (w1.extBut b o n2 q)))
 have gj4:k4.IsTupleIter j t (n+1):=by
  rw [←hk4];obtain⟨o,q,r⟩:=(gj1.extBut w2.extBut (Ne.symm ne)).extBut w3.extBut (Ne.symm ne);exact ⟨o,Heap.get?_push_of_some _ q,r⟩
 show wpAny _ _ (Builtin.SmallTypes.ownedTupleIsFree (.ref e)>>=_) _ _ ⟨k4,g,d,tk+1,os⟩
 rw [sz];clear hk4 ge3 w3 ge2 w2 ge1 w1 gj1 sz k3 k2 k1
 refine wpAny_bind ?_;unfold Builtin.SmallTypes.ownedTupleIsFree
 refine wpAny_bind (wpAny_field ge4 rfl (x:=.none) rfl (wpAny_pure ?_));simp only [if_true]
 refine wpAny_bind (wpAny_rule ?_);refine wpAny_bind (wpAny_field ge4 rfl (x:=old) rfl ?_)
 refine wpAny_bind (wpAny_setField_rec ge4 (by simp) fun k5 ge5 w5=>?_)
 replace w5:Heap.SameBut e k4 k5:=w5
 replace ge5:IsEnum k5 e j ((n:Int)+1) x:=ge5
 show wpAny _ _ (Builtin.SmallTypes.ownedTupleHandOut (.ref e) (.ref hp.objs.size)>>=_) _ _ ⟨k5,g,d,tk+1,os⟩;refine wpAny_bind ?_;unfold Builtin.SmallTypes.ownedTupleHandOut
 refine wpAny_bind (wpAny_setField_rec ge5 (by simp) fun k6 ge6 w6=>?_)
 replace w6:Heap.SameBut e k5 k6:=w6
 replace ge6:IsEnumOut k6 e j ((n:Int)+1) x hp.objs.size:=ge6
 refine wpAny_setField_rec ge6 (by simp) fun k7 ge7 w7=>?_
 replace w7:Heap.SameBut e k6 k7:=w7
 replace ge7:IsEnumOut k7 e j ((n:Int)+1) x hp.objs.size:=ge7
 refine wpAny_bind (wpAny_letGo (wpAny_pure ⟨_,rfl,k k7 ge7 ?_ ?_ ?_ ?_⟩))
 . exact ((gj4.extBut w5.extBut (Ne.symm ne)).extBut w6.extBut (Ne.symm ne)).extBut w7.extBut (Ne.symm ne)
 . exact w7.extBut _ _ (Nat.ne_of_gt le) (w6.extBut _ _ (Nat.ne_of_gt le) (w5.extBut _ _ (Nat.ne_of_gt le) gt4))
 . rw [w7.1,w6.1,w5.1,sz4]
 . exact fun b o n1 n2 q=>w7.extBut b o n1 (w6.extBut b o n1 (w5.extBut b o n1 (kp4 b o n1 n2 q)))
theorem R3 {e j t:Addr}{n:Nat}{vs:Array Value}{x old:Value}{Q:Option Value->Shared->Prop} (ge:IsEnum s.heap e j n old) (gj:s.heap.IsTupleIter j t n) (gt:s.heap.IsTuple t vs) (gx:vs[n]?=some x) (ne:e≠j)
 (k:∀ h',IsEnumOut h' e j ((n:Int)+1) x s.heap.objs.size->h'.IsTupleIter j t (n+1)->h'.get? s.heap.objs.size=some { cls:=.type "tuple",data:=.seq #[.int n s.toks,x] }->h'.objs.size=s.heap.objs.size+1 →
   (∀ b o,b≠e->b≠j->s.heap.get? b=some o->h'.get? b=some o)->Q (some (.ref s.heap.objs.size)) { s with heap:=h',toks:=s.toks+1 }):wpAny (model prog w) A (pyNext (.ref e)) Q E s:=by
 have ht:s.TypeIs (.ref e) "enumerate":=⟨_,ge,rfl⟩
 unfold pyNext
 exact wpAny_bind (wpAny_attempt (wpAny_callSpecial?_slot (name:=Str.ofString "__next__") ht F.slot_enumerate_next (wpAny_call_entry F.slot_enumerate_next ht F.entry_enumerate_next (Ao9 ge gj gt gx ne fun h' a b c d q=>wpAny_pure (k h' a b c d q)) (F.args_enumerate_next_1 _))))
theorem Uy {e j t:Addr}{n:Nat}{vs:Array Value}{old:Value}{Q:Option Value->Shared->Prop} (hn:A.handled=none) (ge:IsEnum s.heap e j n old) (gj:s.heap.IsTupleIter j t n) (gt:s.heap.IsTuple t vs) (gx:vs[n]?=none)
 (k:∀ h',Heap.ExtBut j s.heap h'->Q none { s with heap:=h' }):wpAny (model prog w) A (pyNext (.ref e)) Q E s:=by
 have ht:s.TypeIs (.ref e) "enumerate":=⟨_,ge,rfl⟩
 unfold pyNext
 refine wpAny_bind (wpAny_attempt (wpAny_callSpecial?_slot (name:=Str.ofString "__next__") ht F.slot_enumerate_next (wpAny_call_entry F.slot_enumerate_next ht F.entry_enumerate_next ?_ (F.args_enumerate_next_1 _))))
 show wpAny _ _ (field (.ref e) 2>>=_) _ _ _;refine wpAny_bind (wpAny_field ge rfl (x:=.ref j) rfl ?_)
 refine wpAny_bind (Lc hn gj gt gx fun h' x he hx=>?_)
 obtain⟨o,q1,q2⟩:=hx
 exact wpAny_bind (wpAny_isInstance (T:="StopIteration") (b:=true) ⟨o,q1,q2⟩ isSubtype_stop (wpAny_pure (k _ he)))
theorem Aq5 {t:Addr}{vs:Array Value}{Q:Value->Shared->Prop} (gt:s.heap.IsTuple t vs)
 (k:∀ h',IsEnum h' (s.heap.objs.size+1) s.heap.objs.size 0 .none->h'.IsTupleIter s.heap.objs.size t 0->h'.objs.size=s.heap.objs.size+2->(∀ b o,s.heap.get? b=some o->h'.get? b=some o)->Q (.ref (s.heap.objs.size+1)) { s with heap:=h' }) :
 wpAny (model prog w) A (call (.type "enumerate") [.ref t]) Q E s:=by
 obtain⟨⟨c,dd,dt,sl⟩,q,qc,n,qd⟩:=gt
 replace qc:c=.type "tuple":=qc
 replace qd:dt=.seq vs n:=qd
 subst qc qd
 refine callType_new F.called_enumerate (by decide) (F.typeCall_enumerate_1 _) (F.newCall_enumerate_1 _) (fun obj=>F.args_object_init_2 obj _) F.entry_enumerate_new (A24 t vs n dd sl) ⟨q,?_⟩
 have z1:(zt1 s.heap t).objs.size=s.heap.objs.size+1:=Heap.size_push ..
 show _/\_
 rw [z1]
 have ge:IsEnum ((zt1 s.heap t).push { cls:=.type "enumerate",data:=.fields #[.none,.bool false,.ref s.heap.objs.size,rawInt 0,.none,.none] }) (s.heap.objs.size+1) s.heap.objs.size 0 .none:=by
  have:=Heap.get?_push_size (zt1 s.heap t) (o:={ cls:=.type "enumerate",data:=.fields #[.none,.bool false,.ref s.heap.objs.size,rawInt 0,.none,.none] }) rfl
  rw [z1] at this;exact this
 exact ⟨⟨_,ge,rfl⟩,k _ ge ⟨_,Heap.get?_push_of_some _ (Heap.get?_push_size _ rfl),rfl,rfl⟩ (by rw [Heap.size_push,z1]) fun b o x=>Heap.get?_push_of_some _ (Heap.get?_push_of_some _ x)⟩
end
def IteT (K:W.Frag) (a:Addr):It :=
 ⟨fun i H=>∃ xs x,SqT K H a xs/\xs[i]?=some x,fun i H x H'=>∃ p v,H p=none/\x=.ref p/\H'=upd H p (.tup [.int i,v])/\∀ xs,SqT K H a xs->xs[i]?=some v,fun i H=>∃ xs,SqT K H a xs/\xs.length<=i⟩
theorem Ai0 {P:Program}{w:World}{K:W.Frag}{es:List Expr}{x1:Nat}{tpos:Pos} (a e it:Addr) (hne:e≠it):Turn P w K (.Tuple es x1 tpos) (IteT K a) [e,it] e (fun i h=>(∃ old,IsEnum h e it (i:Int) old)/\h.IsTupleIter it a i) where
 mem:=by simp
 obj:=fun i h st b hb=>by
  obtain⟨⟨old,h1⟩,o,h2,c,d⟩:=st
  rcases List.mem_cons.mp hb with rfl | hb
  . exact ⟨_,h1,fun v z=>by cases (show Data.fields _=Data.cell v from z)⟩
  . have z:b=it:=by simpa using hb
    subst z
    exact ⟨o,h2,fun v z=>by rw [d] at z;cases z⟩
 keep:=fun i h h' st k=>by
  obtain⟨⟨old,h1⟩,h2⟩:=st
  exact ⟨⟨old,k e (by simp) _ h1⟩,h2.at fun o z=>k it (by simp) o z⟩
 item:=by
  intro X hP hw hK hc i Ab s σ H E I hf st hg
  subst hP hw hK
  obtain⟨⟨old,h1⟩,h2⟩:=st
  obtain⟨xs,x,hq,hx⟩:=hg
  obtain⟨its,rv,p,hz⟩:=I.tuple hq
  obtain⟨u,hu,ru⟩:=rv.get hx
  have fe:=hf e (by simp)
  have fi:=hf it (by simp)
  have lte:e<s.heap.objs.size:=Heap.lt_size h1
  have hfresh:H s.heap.objs.size=none:=I.hok.fresh (Nat.le_refl _)
  refine R3 h1 h2 (show s.heap.IsTuple a its.toArray from p) (x:=u) (by simpa using hu) hne fun h' hout hit' htup hsz hk=>?_
  refine⟨_,rfl,wpAny_letOwnedTupleGo_enum hout fun h3 hen hsb=>?_⟩
  replace hsb:Heap.SameBut e h' h3:=hsb
  have kk:∀ b o,b≠e->b≠it->s.heap.get? b=some o->h3.get? b=some o:=fun b o n1 n2 z=>(hsb.2 b n1).trans (hk b o n1 n2 z)
  have ht3:h3.get? s.heap.objs.size=some { cls:=.type "tuple",data:=.seq #[.int i s.toks,u] }:=(hsb.2 _ (Nat.ne_of_gt lte)).trans htup
  have hi3:h3.IsTupleIter it a (i+1):=hit'.at fun o z=>(hsb.2 it hne.symm).trans z
  have nch:∀ b,b ∉ [e,it]->b≠e/\b≠it:=fun b hb=>by simpa using hb
  have ntr:∀ b v,H b=some v->b≠e/\b≠it:=fun b v z=>⟨A8 z fe.1,A8 z fi.1⟩
  have nsz:∀ b v,H b=some v->b≠s.heap.objs.size:=fun b v z=>A8 z hfresh
  refine⟨.ref s.heap.objs.size,upd H s.heap.objs.size (.tup [.int i,x]),?_,rfl,⟨s.heap.objs.size,x,hfresh,rfl,rfl,fun ys hy=>by rw [I.tuple_inj hy hq];exact hx⟩,⟨⟨_,hen⟩,hi3⟩,fun b hb=>?_⟩
  . refine Inv.step (s:=s) (h':=h3) (t':=s.toks+1) (H':=upd H s.heap.objs.size (.tup [.int i,x])) I (g':=s.gens) (d':=s.drawn) (ch:=[e,it]) (fun b hb=>?_) (fun b o _ _ hb z _=>kk b o (nch b hb).1 (nch b hb).2 z) (fun b o _ _ hb z _=>⟨o.slots,kk b o (nch b hb).1 (nch b hb).2 z⟩) (fun b o hb z n=>?_) (fun b o hb z=>⟨o,kk b o (nch b hb).1 (nch b hb).2 z⟩)
     (fun b ys z=>by rw [An (nsz b _ z)];exact z) (fun b o v z=>by rw [An (nsz b _ z)];exact z) (fun b ps z=>⟨#[],by rw [An (nsz b _ z),z];simp⟩) (fun m hm=>?_) (fun b v z=>?_) I.bare
    . rcases List.mem_cons.mp hb with rfl | hb
      . exact ⟨fe.2.2.2.1,fe.2.1,fe.2.2.2.2.1,fe.2.2.2.2.2⟩
      . have z:b=it:=by simpa using hb
        subst z
        exact ⟨fi.2.2.2.1,fi.2.1,fi.2.2.2.2.1,fi.2.2.2.2.2⟩
    . rw [An (Nat.ne_of_lt (Heap.lt_size z))]
      exact n
    . obtain⟨o,es',ep,ho,r⟩:=hm
      exact ⟨o,es',ep,kk _ o fe.2.1.symm fi.2.1.symm ho,r⟩
    . by_cases hb:b=s.heap.objs.size
      . subst hb
        rw [Ae] at z
        cases z
        exact ⟨(by show (2:Nat)<=sizeLine;decide),[.int i s.toks,u],.cons ⟨_,rfl⟩ (.cons ru .nil),⟨_,ht3,rfl,rfl,_,rfl⟩⟩
      . rw [An hb] at z
        refine (I.hok b v z).stay (fun c y hc' q=>?_) (fun c q=>by rw [An (nsz c _ q)];exact q) fun c ys q=>by rw [An (nsz c _ q)];exact q
        rcases hc' with rfl | hc'
        . exact kk _ _ (ntr _ _ z).1 (ntr _ _ z).2 q
        . exact kk _ _ (ntr _ _ hc').1 (ntr _ _ hc').2 q
  . have lb:b<s.heap.objs.size:=by
     rcases List.mem_cons.mp hb with rfl | hb
     . exact lte
     . have z:b=it:=by simpa using hb
       subst z
       obtain⟨o,z,_⟩:=h2
       exact Heap.lt_size z
    rw [An (Nat.ne_of_lt lb)]
    exact (hf b hb).1
 done:=by
  intro X hP hw hK hc i Ab s σ H E I hf st hg
  subst hP hw hK
  obtain⟨⟨old,h1⟩,h2⟩:=st
  obtain⟨xs,hq,hx⟩:=hg
  obtain⟨its,rv,p,hz⟩:=I.tuple hq
  obtain⟨f0,f1,f2,f3,f4,f5⟩:=hf it (by simp)
  have hl:=rv.length
  exact Uy (I.ok.hd hc) h1 h2 (show s.heap.IsTuple a its.toArray from p) (by simp;omega) fun h' eb=>⟨rfl,I.turned (t':=s.toks) (fun b o hb z=>eb b o hb z) f0 f1 f3 f4 f5⟩
 self:=fun _ _ _ _ _ st h=>by
  obtain⟨⟨old,h1⟩,h2⟩:=st
  exact wpAny_pyIter_enum h1 h
def Bt8 (K:W.Frag) (ta:TA):TI:=fun σ H R=>ta σ H fun vs H1=>∃ a,vs=[.ref a]/\(∃ xs,SqT K H1 a xs)/\R (IteT K a) H1
theorem Px:bootBuiltins "enumerate"=some (.type "enumerate"):=by decide +kernel
theorem A86 {X:Cx}{K:W.Frag}{es:List Expr}{x1:Nat}{tpos:Pos}{a:Expr}{ta:TA}{p pos:Pos} (hg:Gl X "enumerate") (hm:X.mg "enumerate"=none) (ha:PA X [a] ta) (hK:X.K=K:=by rfl) (hs:starEach [a] X.env=[(false,eval a X.env)]:=by rfl):PI X (.Tuple es x1 tpos) (.Call (.Name "enumerate" p) [a] [] pos) (Bt8 K ta):=by
 subst hK
 intro Ab s σ H R I h
 refine Call_ (O2 I hg hm Px (PyProof.Rows.callWith_type1 (thn (ha pos Ab s σ H _ I h) fun us s1 ⟨vs,H1,I1,r1,q1⟩=>?_) hs rfl))
 obtain⟨l,e,⟨xs,hq⟩,q⟩:=q1
 subst e
 cases r1 with
 | cons r rr =>
   cases rr
   cases r
   obtain⟨its,rv,pl,hz⟩:=I1.tuple hq
   refine Aq5 (show s1.heap.IsTuple l its.toArray from pl) fun h' hen hit hsz hk=>?_
   refine wpAny_pyIter_enum hen ⟨s1.heap.objs.size+1,[s1.heap.objs.size+1,s1.heap.objs.size],_,_,H1,rfl,I1.kept (t':=s1.toks) hk,Ai0 l _ _ (Nat.succ_ne_self _),⟨⟨_,hen⟩,hit⟩,fun b hb=>?_,q⟩
   have lb:s1.heap.objs.size<=b:=by
    rcases List.mem_cons.mp hb with rfl | hb
    . exact Nat.le_succ _
    . have z:b=s1.heap.objs.size:=by simpa using hb
      rw [z]
      exact Nat.le_refl _
   exact I1.fpOk lb (I1.hok.fresh lb)
section
variable {g:TG}{tc:TT}{te:TE}{D:Addr}{Q:Hp->Prop}{τ:St}{H:Hp}
theorem A17 {K:W.Frag}{a:Addr}{xs:List V}{g:TG}{tb:TS}{D:Ends}{σ:St}{H:Hp} (Pv:Nat->St->Hp->Prop) (h0:Pv 0 σ H) (hl:∀ i σ H,i<=xs.length->Pv i σ H->SqT K H a xs)
 (hs:∀ i x σ H p,xs[i]?=some x->Pv i σ H->H p=none->g (.ref p) σ (upd H p (.tup [.int i,x])) fun σ2 H2=>tb { D with nx:=Pv (i+1),ct:=Pv (i+1),bk:=D.nx } σ2 H2) (hd:∀ σ H,Pv xs.length σ H->D.nx σ H) :
 ∃ W:Nat->Nat->St->Hp->Prop,(∃ m,W 0 m σ H)/\∀ i m σ H,W i m σ H →
   ((IteT K a).stop i H/\D.nx σ H)\/((IteT K a).go i H/\∃ N:St->Hp->Prop,(∀ σ' H',N σ' H'->∃ m',m'<m/\W (i+1) m' σ' H')/\∀ x H',(IteT K a).yld i H x H'->g x σ H' fun σ2 H2=>tb { D with nx:=N,ct:=N,bk:=D.nx } σ2 H2):=by
 refine⟨fun i m σ H=>m=xs.length-i/\i<=xs.length/\Pv i σ H,⟨xs.length,by simp,Nat.zero_le _,h0⟩,?_⟩
 rintro i m σ H ⟨rfl,hi,pp⟩
 have q:=hl i σ H hi pp
 by_cases hlt:i<xs.length
 . refine .inr ⟨⟨xs,xs[i],q,by simp [hlt]⟩,Pv (i+1),fun σ' H' p'=>⟨xs.length-(i+1),by omega,rfl,hlt,p'⟩,fun x H' y=>?_⟩
   obtain⟨p,v,hp,rfl,rfl,y⟩:=y
   exact hs i v σ _ p (y xs q) pp hp
 . have e:i=xs.length:=by omega
   subst e
   exact .inl ⟨⟨xs,q,Nat.le_refl _⟩,hd σ H pp⟩
end
end L2
namespace Hb
def oftN (fs:List Int) (f:Int):Nat->Int
 | 0=>0
 | i+1=>if fs.getD i 0=f then oftN fs f i+1-2*((i:Int)%2) else oftN fs f i
def oft (fs:List Int) (f:Int):Int:=oftN fs f fs.length
def sg (i:Nat):Int:=1-2*((i:Int)%2)
end Hb
namespace Hb
open PySem L2
def sgn (n:Int) (i:Nat):Int:=if (i:Int)%2=0 then n else -n
def Na (ms:Ms) (fs:List Int) (n:Int):Nat->Ms
 | 0=>ms
 | i+1=>addI (Na ms fs n i) (fs.getD i 0) (sgn n i)
def addF (ms:Ms) (fs:List Int) (n:Int):Ms:=Na ms fs n fs.length
theorem b5 (ms:Ms) (fs:List Int) (n k:Int):∀ i,getI (Na ms fs n i) k=getI ms k+oftN fs k i*n
 | 0=>by simp [Na,oftN]
 | i+1=>by
   show getI (addI (Na ms fs n i) (fs.getD i 0) (sgn n i)) k=_
   rw [A13,b5 ms fs n k i]
   show _=getI ms k+(if fs.getD i 0=k then oftN fs k i+1-2*((i:Int)%2) else oftN fs k i)*n
   by_cases h:k=fs.getD i 0
   . rw [if_pos h,if_pos h.symm]
     have e:sgn n i=(1-2*((i:Int)%2))*n:=by
      unfold sgn
      have:(i:Int)%2=0\/(i:Int)%2=1:=by omega
      rcases this with z | z
      . rw [if_pos z,z];simp
      . rw [if_neg (by omega),z];omega
     rw [e,show oftN fs k i+1-2*((i:Int)%2)=oftN fs k i+(1-2*((i:Int)%2)) by omega,Int.add_mul]
     omega
   . rw [if_neg h,if_neg (fun z=>h z.symm)]
theorem X1 {ms:Ms} (h:nd ms) (fs:List Int) (n:Int):∀ i,nd (Na ms fs n i)
 | 0=>h
 | i+1=>Bd7 (X1 h fs n i) _ _
theorem Zy (ms:Ms) (fs:List Int) (n:Int):∀ i,(Na ms fs n i).length<=ms.length+i
 | 0=>Nat.le_refl _
 | i+1=>by
   have h1:=Zy ms fs n i
   have h2:=Aa4 (Na ms fs n i) (fs.getD i 0) (sgn n i)
   show (addI _ _ _).length<=_
   omega
def k9 (b:Addr) (H H1:Hp):Prop:=∀ c q,c≠b->H c=some q->H1 c=some q
section
variable {K:W.Frag}{H H1:Hp}{b:Addr}{m:List (Key × V)}
theorem SqL.x (s:k9 b H H1) (hb:H b=some (.dK m)) {a:Addr}{xs:List V} (h:SqL K H a xs):SqL K H1 a xs:=by
 rcases h with (h|⟨o,h⟩) | h
 . exact .inl (.inl (s _ _ (fun z=>by rw [z,hb] at h;cases h) h))
 . exact .inl (.inr ⟨o,s _ _ (fun z=>by rw [z,hb] at h;cases h) h⟩)
 . exact .inr h
theorem SqT.x (s:k9 b H H1) (hb:H b=some (.dK m)) {a:Addr}{xs:List V} (h:SqT K H a xs):SqT K H1 a xs:=by
 rcases h with (h|⟨o,h⟩) | h
 . exact .inl (.inl (s _ _ (fun z=>by rw [z,hb] at h;cases h) h))
 . exact .inl (.inr ⟨o,s _ _ (fun z=>by rw [z,hb] at h;cases h) h⟩)
 . exact .inr h
mutual
theorem Rep.x (s:k9 b H H1) (hb:H b=some (.dK m)) {v:V}{d:L2.D} (h:Rep K H v d):Rep K H1 v d:=by
 cases d with
 | non=>exact h
 | bl b=>exact h
 | int i=>exact h
 | str x=>exact h
 | tup ds =>
   obtain⟨a,vs,e,q,r⟩:=h
   exact ⟨a,vs,e,SqT.x s hb q,Reps.x s hb r⟩
 | lst ds =>
   obtain⟨a,vs,e,q,r⟩:=h
   exact ⟨a,vs,e,SqL.x s hb q,Reps.x s hb r⟩
theorem Reps.x (s:k9 b H H1) (hb:H b=some (.dK m)) {vs:List V}{ds:List L2.D} (h:Reps K H vs ds):Reps K H1 vs ds:=by
 cases ds with
 | nil=>exact h
 | cons d r =>
   obtain⟨v,q,e,h1,h2⟩:=h
   exact ⟨v,q,e,Rep.x s hb h1,Reps.x s hb h2⟩
end
end
section
variable (K:W.Frag)
def Jj:Sp:=fun vs H Q _=>∃ (a:Addr) (v:V) (ms:Ms) (fs:List Int) (n:Int),vs=[.ref a,v,.int n]/\H a=some (.dK (cK ms))/\TI K H v fs/\ms.length+fs.length<=100000 ∧
 ∀ H',k9 a H H'->H' a=some (.dK (cK (addF ms fs n)))->Q .non H'
end
end Hb
namespace L2
open PySem PySem.Spec PyProof.Rows
structure PEw (X:Cx) (e:Expr) (t:TE):Prop where
 h:PE X e t
theorem Bi0 {X:Cx}{K:W.Frag}{sl:Expr}{es:List Expr}{k:Nat}{p q:Pos}{ta:TA}{tsl:TE} (ha:PAw X es ta) (hsl:PE X sl tsl) (hpi:Ae1 sl) (hK:X.K=K:=by rfl) :
 PEw X (.Subscript (.Tuple es k p) sl q) (tOp (rIxT K) (tTup ta) tsl):=by
 subst hK
 exact ⟨Bx Bm (Cj ha.h) hsl hpi⟩
end L2
namespace Hb
open PySem L2
theorem Zw {n:Int} (h:n.natAbs<1024):n.natAbs.log2<1920:=by
 by_cases z:n.natAbs=0
 . rw [z];decide
 . exact Nat.lt_of_lt_of_le ((Nat.log2_lt (k:=10) z).mpr h) (by decide)
theorem at0 (x:V) (r:List V):atI (x::r) 0=some x:=Ei (j:=0) rfl
theorem at1 (x y:V) (r:List V):atI (x::y::r) 1=some y:=Ei (j:=1) rfl
theorem at2 (x y z:V) (r:List V):atI (x::y::z::r) 2=some z:=Ei (j:=2) rfl
section
variable (K:W.Frag)
end
end Hb
namespace Hb
open PySem L2
end Hb
namespace Hb
def isP (n:Int):Bool:=(List.range (n-2).toNat).all fun k=>decide (¬n%(2+(k:Int))=0)
structure Hj (p:Int):Prop where
 two:2<=p
 free:∀ k:Int,2<=k->k<p->¬p%k=0
theorem A04 {n:Int} (h2:2<=n) (h:isP n=true):Hj n:=by
 refine⟨h2,fun k k2 kn=>?_⟩
 have h':=List.all_eq_true.mp h (k-2).toNat (List.mem_range.mpr (by omega))
 have e:(2:Int)+((k-2).toNat:Int)=k:=by omega
 rw [e] at h'
 simpa using h'
theorem Hj.div {p a:Int} (h:Hj p) (ha:0<a) (hd:a∣p):a=1\/a=p:=by
 have h2:=h.two
 have hle:a<=p:=Int.le_of_dvd (by omega) hd
 by_cases h1:a=1
 . exact .inl h1
 . by_cases hp:a=p
   . exact .inr hp
   . exact absurd (Int.emod_eq_zero_of_dvd hd) (h.free a (by omega) (by omega))
structure Eu (n p a x b u:Int):Prop where
 ha:p∣a-x*n
 hb:p∣b-u*n
 dv:∀ d:Int,d∣a->d∣b->d∣n/\d∣p
theorem Eu.start (n p:Int):Eu n p n 1 p 0:=⟨by simp,by simp,fun d h1 h2=>⟨h1,h2⟩⟩
theorem Eu.step {n p a x b u:Int} (h:Eu n p a x b u) (q:Int):Eu n p b u (a-q*b) (x-q*u):=by
 refine⟨h.hb,?_,fun d h1 h2=>?_⟩
 . have e:a-q*b-(x-q*u)*n=(a-x*n)-q*(b-u*n):=by
    rw [Int.sub_mul,Int.mul_sub,Int.mul_assoc]
    omega
   rw [e]
   exact Int.dvd_sub h.ha (Int.dvd_mul_of_dvd_right h.hb)
 . have e:a=(a-q*b)+q*b:=by omega
   refine h.dv d ?_ h1
   rw [e]
   exact Int.dvd_add h2 (Int.dvd_mul_of_dvd_right h1)
theorem Eu.last {n p a x u:Int} (h:Eu n p a x 0 u) (hp:Hj p) (hn:¬p∣n) (ha:0<a):a=1:=by
 obtain⟨h1,h2⟩:=h.dv a (Int.dvd_refl a) (Int.dvd_zero a)
 rcases hp.div ha h2 with e | e
 . exact e
 . subst e
   exact absurd h1 hn
theorem A99 {n p x:Int} (h2:2<=p) (h:p∣1-x*n):0<=x%p/\x%p<p/\p∣1-(x%p)*n:=by
 refine⟨Int.emod_nonneg _ (by omega),Int.emod_lt_of_pos _ (by omega),?_⟩
 have e:1-(x%p)*n=(1-x*n)+p*((x / p)*n):=by
  have:x=p*(x / p)+x%p:=(Int.mul_ediv_add_emod x p).symm
  have e2:x*n=p*(x / p)*n+x%p*n:=by
   rw [←Int.add_mul,←this]
  rw [e2,Int.mul_assoc]
  omega
 rw [e]
 exact Int.dvd_add h (Int.dvd_mul_right _ _)
def prs (m:Nat):List Int:=((List.range m).map fun (i:Nat)=>2+(i:Int)).filter isP
theorem Ae9 (m:Nat):prs (m+1)=if isP (2+(m:Int))=true then prs m++[2+(m:Int)] else prs m:=by
 unfold prs
 rw [List.range_succ,List.map_append,List.filter_append]
 by_cases h:isP (2+(m:Int))=true
 . rw [if_pos h];simp [List.filter,h]
 . rw [if_neg h];simp [List.filter,h]
theorem Bg9 (m:Nat):(prs m).length<=m:=by
 unfold prs
 refine Nat.le_trans (List.length_filter_le ..) ?_
 simp
theorem Bp9:(prs 96).length=25:=by decide +kernel
theorem Bg8 {m:Nat}{p:Int} (h:p∈prs m):Hj p/\p<2+(m:Int):=by
 unfold prs at h
 rw [List.mem_filter] at h
 obtain⟨h1,h2⟩:=h
 obtain⟨i,hi,rfl⟩:=List.mem_map.mp h1
 have:=List.mem_range.mp hi
 exact ⟨A04 (by omega) h2,by omega⟩
def dvs (n:Int) (m:Nat):List Int:=((List.range m).map fun (i:Nat)=>2+(i:Int)).filter fun k=>decide (n%k=0)
theorem Ag1 (n:Int) (m:Nat):dvs n (m+1)=if n%(2+(m:Int))=0 then dvs n m++[2+(m:Int)] else dvs n m:=by
 unfold dvs
 rw [List.range_succ,List.map_append,List.filter_append]
 by_cases h:n%(2+(m:Int))=0
 . rw [if_pos h];simp [List.filter,h]
 . rw [if_neg h];simp [List.filter,h]
theorem Bl9 (n:Int) (m:Nat):(dvs n m).length<=m:=by
 unfold dvs
 refine Nat.le_trans (List.length_filter_le ..) ?_
 simp
theorem Bb8 (n:Int):((dvs n (n-2).toNat).length=0)↔isP n=true:=by
 unfold dvs isP
 rw [List.length_eq_zero_iff,List.filter_eq_nil_iff,List.all_eq_true]
 constructor
 . intro h k hk
   have:=h (2+(k:Int)) (List.mem_map.mpr ⟨k,hk,rfl⟩)
   simpa using this
 . intro h k hk
   obtain⟨i,hi,rfl⟩:=List.mem_map.mp hk
   simpa using h i hi
end Hb
namespace L2
open PySem PySem.Spec PyProof.Rows
def rInK:R2:=fun x y H Q=>∃ a kvs k,y=.ref a/\H a=some (.dK kvs)/\x=kV k/\Q (.bl (valV kvs k).isSome) H
theorem Bq5 {X:Cx} (hu:X.A.units+1<cLine):OpR X (compareOp .In) rInK:=by
 intro Ab s σ H x y v u Q I rx ry h
 obtain⟨a,kvs,k,rfl,ha,rfl,q⟩:=h
 obtain rfl:u=Value.ref a:=ry
 exact d_in hu I (.k ha) rx fun s3 I3=>⟨.bl (valV kvs k).isSome,H,I3,rfl,q⟩
end L2
namespace Hb
open PySem L2
theorem Gm {xs:List (List Int)} (h:Fx xs):Ae2 xs:=fun x hx=>by
 obtain⟨k,hk⟩:=List.getElem?_of_mem hx
 exact (h k x hk).cnt
theorem Nl {xs:List (List Int)}{q:List Int} (h:Fx xs) (hf:Fits xs q):Fx (xs++[q]):=fun k p hk=>by
 by_cases hlt:k<xs.length
 . rw [List.getElem?_append_left hlt] at hk
   rw [List.take_append_of_le_length (by omega)]
   exact h k p hk
 . have hk':k<(xs++[q]).length:=(List.getElem?_eq_some_iff.mp hk).1
   have e:k=xs.length:=by simp at hk';omega
   subst e
   simp at hk
   subst hk
   rw [List.take_append_of_le_length (Nat.le_refl _),List.take_length]
   exact hf
theorem Ab8 {xs:List (List Int)}{f:Int} (h0:0<=f) (h1:f<(xs.length:Int)):xs[f.toNat]?=some (xs.getD f.toNat []):=by
 have:f.toNat<xs.length:=by omega
 rw [List.getD_eq_getElem?_getD,List.getElem?_eq_getElem this]
 rfl
theorem Ao7 {xs:List (List Int)}{q:List Int} (h:Fz xs (tI q)=true):∀ f∈q,0<=f/\f<(xs.length:Int)/\levI (xs.getD f.toNat []).length=levI q.length-1:=by
 intro f hf
 have h':Fz xs (.tup (nums q))=true:=h
 rw [Dq] at h'
 simp only [Bool.and_eq_true] at h'
 have h2:=List.all_eq_true.mp h'.1.2 (.int f) (List.mem_map.mpr ⟨f,hf,rfl⟩)
 have h3:(decide (0<=f)&&decide (f<(xs.length:Int))&&decide (levI (xs.getD f.toNat []).length=levI (nums q).length-1))=true:=h2
 simp only [Bool.and_eq_true,decide_eq_true_eq] at h3
 have hl:(nums q).length=q.length:=by unfold nums;rw [List.length_map]
 rw [hl] at h3
 exact ⟨h3.1.1,h3.1.2,h3.2⟩
theorem Bb7 {xs:List (List Int)}{q:List Int} (h:Fz xs (tI q)=true):q.length=0\/q.length=2\/q.length=3\/q.length=4:=by
 have h':Fz xs (.tup (nums q))=true:=h
 rw [Dq] at h'
 simp only [Bool.and_eq_true] at h'
 have h1:=h'.1.1
 have hl:(nums q).length=q.length:=by unfold nums;rw [List.length_map]
 rw [hl] at h1
 unfold cntB at h1
 simp only [Bool.or_eq_true,beq_iff_eq] at h1
 omega
theorem Ay9 (q:List Int):(nums q).map toI=q:=by
 unfold nums
 rw [List.map_map]
 exact (List.map_congr_left fun _ _=>rfl).trans (List.map_id q)
theorem Ab9 {xs:List (List Int)}{q:List Int} (hc:Ae2 xs) (h:Fz xs (tI q)=true):Fits xs q:=by
 have hfs:=Ao7 h
 have hcn:=Bb7 h
 have hlev:∀ f∈q,(xs.getD f.toNat []).length-1+1=q.length-1:=fun f hf=>by
  obtain⟨h0,h1,h2⟩:=hfs f hf
  have hq:1<=q.length:=List.length_pos_of_mem hf
  rw [C3,C3] at h2
  omega
 refine⟨hcn,fun f hf=>(hfs f hf).1,fun f hf=>?_,fun h3 i j f g r s hij hj hi hr hs=>?_⟩
 . obtain⟨h0,h1,_⟩:=hfs f hf
   exact ⟨_,Ab8 h0 h1,hlev f hf⟩
 . have hf:=List.mem_of_getElem? hj
   have hg:=List.mem_of_getElem? hi
   obtain⟨f0,f1,_⟩:=hfs f hf
   obtain⟨g0,g1,_⟩:=hfs g hg
   have er:r=xs.getD f.toNat []:=by rw [Ab8 f0 f1] at hr;exact (Option.some.inj hr).symm
   have es:s=xs.getD g.toNat []:=by rw [Ab8 g0 g1] at hs;exact (Option.some.inj hs).symm
   have h':Fz xs (.tup (nums q))=true:=h
   rw [Dq] at h'
   simp only [Bool.and_eq_true,Bool.or_eq_true,decide_eq_true_eq,Ay9] at h'
   have hl:(nums q).length=q.length:=by unfold nums;rw [List.length_map]
   have ha:Fw xs q=true:=by
    rcases h'.2 with z | z
    . rw [hl,C3] at z;omega
    . exact z
   have hjl:j<q.length:=(List.getElem?_eq_some_iff.mp hj).1
   have h4:=List.all_eq_true.mp (List.all_eq_true.mp ha j (List.mem_range.mpr hjl)) i (List.mem_range.mpr hij)
   unfold Mh at h4
   have hjd:q.getD j 0=f:=by rw [List.getD_eq_getElem?_getD,hj];rfl
   have hid:q.getD i 0=g:=by rw [List.getD_eq_getElem?_getD,hi];rfl
   rw [hjd,hid,←er,←es,decide_eq_true_eq] at h4
   have l1:=hlev f hf
   have l2:=hlev g hg
   rw [←er] at l1
   rw [←es] at l2
   have hr':r.length=0\/r.length=2\/r.length=3\/r.length=4:=by rw [er];exact hc.at f0 f1
   have hs':s.length=0\/s.length=2\/s.length=3\/s.length=4:=by rw [es];exact hc.at g0 g1
   have i1:i<r.length:=by omega
   have j1:j-1<s.length:=by omega
   rw [List.getElem?_eq_getElem i1,List.getElem?_eq_getElem j1]
   rw [List.getD_eq_getElem?_getD,List.getD_eq_getElem?_getD,List.getElem?_eq_getElem i1,List.getElem?_eq_getElem j1] at h4
   exact congrArg some h4
def Bl7 (xs:List (List Int)):DE->Bool
 | .d d=>Fz xs d
 | .nul=>false
structure Ox (p:Int) (xs:List (List Int)) (es ss:List Ms) (bs:Ms):Prop where
 shp:Fx xs
 le:es.length=xs.length
 ls:ss.length=xs.length
 n40:xs.length<=40
 eok:∀ (i:Nat) m,es[i]?=some m->OkM p m/\∀ x∈Bn m,0<=x/\x<(i:Int)/\((xs.getD x.toNat []).length-1)+1=(xs.getD i []).length-1
 sok:∀ (i:Nat) m,ss[i]?=some m->OkM p m/\∀ x∈Bn m,0<=x/\x<=(i:Int)
 bnd:nd bs
 bls:∀ b e,lookI bs b=some e↔∃ (i:Nat) (m:Ms),e=(i:Int)/\es[i]?=some m/\Top m b
theorem Ox.nil (p:Int):Ox p [] [] [] []:=⟨fun k q h=>by simp at h,rfl,rfl,by decide,fun i m h=>by simp at h,fun i m h=>by simp at h,List.nodup_nil,fun b e=>⟨fun h=>by simp [lookI] at h,fun ⟨i,m,_,h,_⟩=>by simp at h⟩⟩
theorem Top.no {b:Int} (h:Top [] b):False:=by have:=h.mem;simp [Bn] at this
theorem D7 {xs:List (List Int)}{q:List Int}{i:Nat} (h:i<xs.length):(xs++[q]).getD i []=xs.getD i []:=by
 rw [List.getD_eq_getElem?_getD,List.getD_eq_getElem?_getD,List.getElem?_append_left h]
theorem P9 {xs:List (List Int)}{q:List Int}:(xs++[q]).getD xs.length []=q:=by
 rw [List.getD_eq_getElem?_getD,List.getElem?_append_right (Nat.le_refl _)]
 simp
theorem D8 {α:Type}{l:List α}{x y:α}{i:Nat} (h:(l++[x])[i]?=some y):(i<l.length/\l[i]?=some y)\/(i=l.length/\y=x):=by
 by_cases hlt:i<l.length
 . rw [List.getElem?_append_left hlt] at h
   exact .inl ⟨hlt,h⟩
 . have hk':i<(l++[x]).length:=(List.getElem?_eq_some_iff.mp h).1
   have e:i=l.length:=by simp at hk';omega
   subst e
   simp at h
   exact .inr ⟨rfl,h.symm⟩
structure Bx3 (p:Int) (xs:List (List Int)) (bs:Ms) (q:List Int) (ms me:Ms):Prop where
 h1:OkM p ms
 k1:∀ x∈Bn ms,0<=x/\x<=(xs.length:Int)
 h2:OkM p me
 k2:∀ x∈Bn me,0<=x/\x<(xs.length:Int)/\(xs.getD x.toNat []).length-1+1=q.length-1
 h3:∀ b,Top me b->lookI bs b=none
theorem Ox.grow {p:Int}{xs:List (List Int)}{es ss:List Ms}{bs:Ms}{q:List Int}{ms me bs':Ms} (h:Ox p xs es ss bs) (hf:Fits xs q) (hn:xs.length<40) (f:Bx3 p xs bs q ms me)
 (hb:(me=[]/\bs'=bs)\/∃ b,Top me b/\bs'=putI bs b (xs.length:Int)):Ox p (xs++[q]) (es++[me]) (ss++[ms]) bs':=by
 refine⟨Nl h.shp hf,by simp [h.le],by simp [h.ls],by simp;omega,fun i m hi=>?_,fun i m hi=>?_,?_,fun b e=>?_⟩
 . rcases D8 hi with ⟨hl,hi⟩|⟨rfl,rfl⟩
   . rw [h.le] at hl
     obtain⟨a1,a2⟩:=h.eok i m hi
     refine⟨a1,fun x hx=>?_⟩
     obtain⟨b1,b2,b3⟩:=a2 x hx
     refine⟨b1,b2,?_⟩
     rw [D7 (by omega),D7 hl]
     exact b3
   . refine⟨f.h2,fun x hx=>?_⟩
     obtain⟨b1,b2,b3⟩:=f.k2 x hx
     rw [h.le]
     refine⟨b1,b2,?_⟩
     rw [D7 (by omega),P9]
     exact b3
 . rcases D8 hi with ⟨hl,hi⟩|⟨rfl,rfl⟩
   . exact h.sok i m hi
   . rw [h.ls]
     exact ⟨f.h1,f.k1⟩
 . rcases hb with ⟨_,rfl⟩|⟨b,_,rfl⟩
   . exact h.bnd
   . exact Bd6 h.bnd _ _
 . rcases hb with ⟨rfl,rfl⟩|⟨b0,hb0,rfl⟩
   . rw [h.bls]
     constructor
     . rintro ⟨i,m,e1,e2,e3⟩
       exact ⟨i,m,e1,by rw [List.getElem?_append_left (List.getElem?_eq_some_iff.mp e2).1];exact e2,e3⟩
     . rintro ⟨i,m,e1,e2,e3⟩
       rcases D8 e2 with ⟨_,e2⟩|⟨_,rfl⟩
       . exact ⟨i,m,e1,e2,e3⟩
       . exact (Top.no e3).elim
   . rw [Zu]
     by_cases hbb:b=b0
     . subst hbb
       rw [if_pos rfl]
       constructor
       . intro z
         cases z
         exact ⟨es.length,me,by rw [h.le],by simp,hb0⟩
       . rintro ⟨i,m,e1,e2,e3⟩
         rcases D8 e2 with ⟨_,e2⟩|⟨e4,rfl⟩
         . have:=(h.bls b (i:Int)).mpr ⟨i,m,rfl,e2,e3⟩
           rw [f.h3 b hb0] at this
           cases this
         . rw [e1,e4,h.le]
     . rw [if_neg hbb,h.bls]
       constructor
       . rintro ⟨i,m,e1,e2,e3⟩
         exact ⟨i,m,e1,by rw [List.getElem?_append_left (List.getElem?_eq_some_iff.mp e2).1];exact e2,e3⟩
       . rintro ⟨i,m,e1,e2,e3⟩
         rcases D8 e2 with ⟨_,e2⟩|⟨_,rfl⟩
         . exact ⟨i,m,e1,e2,e3⟩
         . exact absurd (Top.one e3 hb0) hbb
theorem F5 {ms:Ms} (h:nd ms) (hk:∀ x∈Bn ms,0<=x/\x<=40):ms.length<=41:=by
 have:=Bd9 (Bn ms) ((List.range 41).map fun (i:Nat)=>(i:Int)) h fun x hx=>by
  obtain⟨h1,h2⟩:=hk x hx
  exact List.mem_map.mpr ⟨x.toNat,List.mem_range.mpr (by omega),by omega⟩
 unfold Bn at this
 simpa using this
theorem Ox.blen {p:Int}{xs:List (List Int)}{es ss:List Ms}{bs:Ms} (h:Ox p xs es ss bs):bs.length<=41:=by
 refine F5 h.bnd fun x hx=>?_
 obtain⟨r,hr,rfl⟩:=List.mem_map.mp hx
 obtain⟨i,m,_,e2,e3⟩:=(h.bls r.1 r.2).mp (X2 h.bnd hr)
 have hl:i<xs.length:=by rw [←h.le];exact (List.getElem?_eq_some_iff.mp e2).1
 have:=(h.eok i m e2).2 _ e3.mem
 have:=h.n40
 omega
theorem e8 {p n:Int}{es fs:Ms} (hp:0<p) (he:OkM p es) (hf:OkM p fs):OkM p (modI p (Ed es (Bq n fs)))/\∀ x∈Bn (modI p (Ed es (Bq n fs))),x∈Bn es\/x∈Bn fs:=by
 have ndt:nd (Bq n fs):=by
  unfold Bq
  split
  . exact List.nodup_nil
  . exact Kt hf.nd _
 obtain⟨n1,n2,n3,n4⟩:=L3 (Bq n fs) es he.nd he.nz ndt
 have ok:=Ay5 n1 hp
 refine⟨ok,fun x hx=>?_⟩
 have hx0:=(Ab7 ok.nz).mpr hx
 rw [L5 n1,n4,J4] at hx0
 by_cases h1:x∈Bn es
 . exact .inl h1
 by_cases h2:x∈Bn fs
 . exact .inr h2
 . rw [E9 h1,E9 h2] at hx0
   simp at hx0
theorem Bk3 {ms:Ms}{k n x:Int} (h:x∈Bn (addI ms k n)):x∈Bn ms\/x=k:=by
 unfold addI at h
 split at h
 . obtain⟨r,hr,rfl⟩:=List.mem_map.mp h
   exact .inl (List.mem_map.mpr ⟨r,(List.mem_filter.mp hr).1,rfl⟩)
 . obtain⟨r,hr,rfl⟩:=List.mem_map.mp h
   rcases Ay6 hr with z | z
   . exact .inl (List.mem_map.mpr ⟨r,z,rfl⟩)
   . rw [z];exact .inr rfl
theorem Z0 {fs:List Int}{n x:Int}:∀{i:Nat},i<=fs.length->x∈Bn (Na [] fs n i)->x∈fs
 | 0,_,h=>by simp [Na,Bn] at h
 | i+1,hi,h=>by
   rcases Bk3 (show x∈Bn (addI (Na [] fs n i) (fs.getD i 0) (sgn n i)) from h) with z | z
   . exact Z0 (by omega) z
   . rw [z,List.getD_eq_getElem?_getD,List.getElem?_eq_getElem (by omega)]
     exact List.getElem_mem _
theorem Top.look {p:Int}{ms:Ms}{b:Int} (h:OkM p ms) (t:Top ms b):lookI ms b=some (getI ms b)/\0<getI ms b/\getI ms b<p:=by
 obtain⟨r,hr,rfl⟩:=List.mem_map.mp t.mem
 have e:=X2 h.nd hr
 have e2:getI ms r.1=r.2:=by unfold getI;rw [e];rfl
 rw [e2]
 exact ⟨e,h.bd r hr⟩
theorem ndvd {p v:Int} (h0:0<v) (h1:v<p):¬p∣v:=fun z=>by have:=Int.le_of_dvd h0 z;omega
structure Im (H:Hp) (l en:Addr) (ms:List Ms):Prop where
 ex:∃ ds:List Addr,H l=some (.lst (ds.map V.ref))/\ds.length=ms.length/\∀ (i:Nat) d m,ds[i]?=some d->ms[i]?=some m->H d=some (.dK (cK m))/\d≠en
structure Db (K:W.Frag) (CG:Addr) (H:Hp) (g pc sh ed en:Addr) (p:Int) (xs:List (List Int)) (es ss:List Ms) (bs:Ms):Prop where
 ob:∃ dx fs,H g=some (.ins CG dx fs)/\fs.lookup ("prime":Str)=some (.int p)/\fs.lookup ("pieces":Str)=some (.ref pc)/\fs.lookup ("sheets":Str)=some (.ref sh)/\fs.lookup ("edges":Str)=some (.ref ed)/\fs.lookup ("enders":Str)=some (.ref en) ∧
  (fs.lookup ("grow":Str)=none/\fs.lookup ("settled":Str)=none/\fs.lookup ("take_back":Str)=none/\fs.lookup ("shape":Str)=none/\fs.lookup ("paper":Str)=none/\fs.lookup ("pairs":Str)=none/\fs.lookup ("alive":Str)=none)
 pcs:∃ us,H pc=some (.lst us)/\Reps K H us (xs.map tI)
 eds:Im H ed en es
 shs:Im H sh en ss
 ens:H en=some (.dK (cK bs))
 ne:pc≠sh/\pc≠ed/\sh≠ed
 gw:Ox p xs es ss bs
 pr:Hj p/\p<98
def W4 (pc sh ed en:Addr):Addr->Prop:=fun a=>a=pc\/a=sh\/a=ed\/a=en
def FrG (pc sh ed en:Addr) (H H':Hp):Prop:=∀ c o,¬W4 pc sh ed en c->H c=some o->H' c=some o
theorem FrG.of {pc sh ed en:Addr}{H H':Hp} (s:Same H H'):FrG pc sh ed en H H':=fun c o _ e=>s c o e
theorem FrG.trans {pc sh ed en:Addr}{H H1 H2:Hp} (a:FrG pc sh ed en H H1) (b:FrG pc sh ed en H1 H2):FrG pc sh ed en H H2:=fun c o n e=>b c o n (a c o n e)
theorem FrG.up {pc sh ed en c:Addr}{H:Hp}{o:HO} (h:W4 pc sh ed en c):FrG pc sh ed en H (upd H c o):=fun d u n e=>by
 have hn:d≠c:=fun z=>by subst z;exact n h
 rw [An hn]
 exact e
def Mut (H:Hp) (c:Addr):Prop:=(∃ us,H c=some (.lst us))\/∃ kvs,H c=some (.dK kvs)
section
variable {K:W.Frag}{CG:Addr}{H H':Hp}{g pc sh ed en:Addr}{p:Int}{xs:List (List Int)}{es ss:List Ms}{bs:Ms}
theorem Im.get {l:Addr}{ms:List Ms} (x:Im H l en ms) {i:Nat}{m:Ms} (h:ms[i]?=some m):∃ (ds:List Addr) (d:Addr),H l=some (.lst (ds.map V.ref))/\ds[i]?=some d/\H d=some (.dK (cK m))/\d≠en:=by
 obtain⟨ds,h1,h2,h3⟩:=x.ex
 have hi:i<ds.length:=by rw [h2];exact (List.getElem?_eq_some_iff.mp h).1
 obtain⟨h4,h5⟩:=h3 i ds[i] m (List.getElem?_eq_getElem hi) h
 exact ⟨ds,ds[i],h1,List.getElem?_eq_getElem hi,h4,h5⟩
theorem Im.same {l:Addr}{ms:List Ms} (x:Im H l en ms) (s:Same H H'):Im H' l en ms:=by
 obtain⟨ds,h1,h2,h3⟩:=x.ex
 exact ⟨ds,s _ _ h1,h2,fun i d m e1 e2=>⟨s _ _ (h3 i d m e1 e2).1,(h3 i d m e1 e2).2⟩⟩
theorem Db.same (x:Db K CG H g pc sh ed en p xs es ss bs) (s:Same H H'):Db K CG H' g pc sh ed en p xs es ss bs:=by
 obtain⟨dx,fs,h1,h2⟩:=x.ob
 obtain⟨us,h3,h4⟩:=x.pcs
 exact ⟨⟨dx,fs,s _ _ h1,h2⟩,⟨us,s _ _ h3,Reps.same s h4⟩,x.eds.same s,x.shs.same s,s _ _ x.ens,x.ne,x.gw,x.pr⟩
theorem Db.mut (x:Db K CG H g pc sh ed en p xs es ss bs):∀ c,W4 pc sh ed en c->Mut H c:=by
 rintro c (rfl | rfl | rfl | rfl)
 . obtain⟨us,h,_⟩:=x.pcs
   exact .inl ⟨_,h⟩
 . obtain⟨ds,h,_⟩:=x.shs.ex
   exact .inl ⟨_,h⟩
 . obtain⟨ds,h,_⟩:=x.eds.ex
   exact .inl ⟨_,h⟩
 . exact .inr ⟨_,x.ens⟩
theorem FrG.t (x:Db K CG H g pc sh ed en p xs es ss bs) (fr:FrG pc sh ed en H H'):Ow H H':=by
 refine⟨fun b us e=>fr b _ (fun w=>?_) e,fun b o u e=>fr b _ (fun w=>?_) e⟩
 . rcases x.mut b w with ⟨_,z⟩|⟨_,z⟩<;>(rw [z] at e;cases e)
 . rcases x.mut b w with ⟨_,z⟩|⟨_,z⟩<;>(rw [z] at e;cases e)
theorem Db.put (x:Db K CG H g pc sh ed en p xs es ss bs) {us:List V}{ds cs:List Addr}{xs':List (List Int)}{es' ss':List Ms}{bs':Ms} (hr:Reps K H us (xs'.map tI))
 (l1:ds.length=es'.length) (h1:∀ (i:Nat) d m,ds[i]?=some d->es'[i]?=some m->H d=some (.dK (cK m))/\d≠en) (l2:cs.length=ss'.length) (h2:∀ (i:Nat) d m,cs[i]?=some d->ss'[i]?=some m->H d=some (.dK (cK m))/\d≠en) (gw:Ox p xs' es' ss' bs') :
 Db K CG (upd (upd (upd (upd H pc (.lst us)) sh (.lst (cs.map V.ref))) ed (.lst (ds.map V.ref))) en (.dK (cK bs'))) g pc sh ed en p xs' es' ss' bs':=by
 obtain⟨dx,fs,a1,a2⟩:=x.ob
 obtain⟨n1,n2,n3⟩:=x.ne
 have mu:=x.mut
 have ins:∀{c:Addr}{o:HO},H c=some o->(∀ us,o≠.lst us)->c≠en->upd (upd (upd (upd H pc (.lst us)) sh (.lst (cs.map V.ref))) ed (.lst (ds.map V.ref))) en (.dK (cK bs')) c=some o:=fun {c o} e n m=>by
  obtain⟨_,q1,_⟩:=x.pcs
  obtain⟨_,q2,_⟩:=x.shs.ex
  obtain⟨_,q3,_⟩:=x.eds.ex
  rw [An m,An (fun z=>by rw [z,q3] at e;cases e;exact n _ rfl),An (fun z=>by rw [z,q2] at e;cases e;exact n _ rfl),An (fun z=>by rw [z,q1] at e;cases e;exact n _ rfl)]
  exact e
 have nen:∀{c:Addr}{us:List V},H c=some (.lst us)->c≠en:=fun {c us} e z=>by rw [z,x.ens] at e;cases e
 obtain⟨_,q1,_⟩:=x.pcs
 obtain⟨_,q2,_⟩:=x.shs.ex
 obtain⟨_,q3,_⟩:=x.eds.ex
 have ts:Ow H (upd (upd (upd (upd H pc (.lst us)) sh (.lst (cs.map V.ref))) ed (.lst (ds.map V.ref))) en (.dK (cK bs'))) :=
  ⟨fun b us e=>ins e (fun _ z=>by cases z) (fun z=>by rw [z,x.ens] at e;cases e),fun b o u e=>ins e (fun _ z=>by cases z) (fun z=>by rw [z,x.ens] at e;cases e)⟩
 refine⟨⟨dx,fs,ins a1 (fun _ z=>by cases z) (fun z=>by rw [z,x.ens] at a1;cases a1),a2⟩,⟨us,?_,Reps.t ts (Mx _) hr⟩,⟨ds,?_,l1,fun i d m e1 e2=>?_⟩,⟨cs,?_,l2,fun i d m e1 e2=>?_⟩,Ae,x.ne,gw,x.pr⟩
 . rw [An (nen q1),An n2,An n1,Ae]
 . rw [An (nen q3),Ae]
 . obtain⟨c1,c2⟩:=h1 i d m e1 e2
   exact ⟨ins c1 (fun _ z=>by cases z) c2,c2⟩
 . rw [An (nen q2),An n3,Ae]
 . obtain⟨c1,c2⟩:=h2 i d m e1 e2
   exact ⟨ins c1 (fun _ z=>by cases z) c2,c2⟩
end
def hidG (H:Hp) (Z:Addr->Prop):Hp:=fun a=>@ite _ (Z a) (Classical.propDecidable _) none (H a)
section
variable {H H' H0:Hp}{Z W:Addr->Prop}
theorem Ab5 {a:Addr} (h:¬Z a):hidG H Z a=H a:=by unfold hidG;rw [if_neg h]
theorem Af8 {a:Addr} (h:Z a):hidG H Z a=none:=by unfold hidG;rw [if_pos h]
theorem A08:Same (hidG H Z) H:=fun a o e=>by
 by_cases h:Z a
 . rw [Af8 h] at e;cases e
 . rw [Ab5 h] at e;exact e
theorem A09 (h:∀ a o,¬Z a->H a=some o->H' a=some o):Same (hidG H Z) (hidG H' Z):=fun a o e=>by
 by_cases hz:Z a
 . rw [Af8 hz] at e;cases e
 . rw [Ab5 hz] at e ⊢;exact h a o hz e
theorem FrG.hid {pc sh ed en:Addr} (fr:FrG pc sh ed en H H') (hs:∀ c,W4 pc sh ed en c->Z c):Same (hidG H Z) (hidG H' Z):=A09 fun a o n e=>fr a o (fun w=>n (hs a w)) e
end
section
variable {K:W.Frag}{CG:Addr}{H H':Hp}{g pc sh ed en:Addr}{p:Int}{xs:List (List Int)}{es ss:List Ms}{bs:Ms}{W:Addr->Prop}
end
def meetsB (xs:List (List Int)) (fs:List Int) (f:Int):Bool:=decide ((xs.getD f.toNat []).length=0) || (List.range fs.length).all fun i=>decide ((xs.getD f.toNat []).getD i 0=(xs.getD (fs.getD i 0).toNat []).getD (fs.length-1) 0)
section
variable (K:W.Frag) (CG:Addr)
def Kp (_K:W.Frag):Sp:=fun vs H Q _=>∃ (a:Addr) (ms:Ms) (p:Int),vs=[.ref a,.int p]/\H a=some (.dK (cK ms))/\ms.length<=1000/\nd ms/\0<p/\newC H (modI p ms) Q
def n0:Sp:=fun vs H Q _=>∃ n p:Int,vs=[.int n,.int p]/\Hj p/\p<98/\¬p∣n/\∀ (L:Addr) (x y:Int) (H':Hp),Same H H'->SqT K H' L [.int 1,.int x,.int y]->p∣1-x*n->Q (.ref L) H'
def Ww (_K:W.Frag):Sp:=fun vs H Q _=>∃ n p:Int,vs=[.int n,.int p]/\Hj p/\p<98/\¬p∣n/\∀ (f:Int) (H':Hp),Same H H'->0<=f->f<p->p∣1-f*n->Q (.int f) H'
def Wx:Sp:=fun vs H Q _=>∃ (a:Addr) (th:V) (e:DE) (xs:List (List Int)),vs=[.ref a,th]/\LT K H (.ref a) xs/\RepE K H th e/\∀ H',Same H H'->Q (.bl (Bl7 xs e)) H'
def Qe:Sp:=fun vs H Q _=>∃ (a:Addr) (th:V) (e:DE) (xs:List (List Int)),vs=[.ref a,th]/\LT K H (.ref a) xs/\Ae2 xs/\xs.length<=1000/\RepE K H th e/\∀ H',Same H H'->Q (.bl (Bl7 xs e)) H'
def Ml:Sp:=fun vs H Q _=>∃ (a:Addr) (v:V) (xs:List (List Int)) (fs:List Int) (f:Int),vs=[.ref a,v,.int f]/\LT K H (.ref a) xs/\TI K H v fs/\0<=f/\f<(xs.length:Int)/\(∀ g∈fs,0<=g/\g<(xs.length:Int))/\fs.length<=4 ∧
 ((xs.getD f.toNat []).length=0\/(fs.length<=(xs.getD f.toNat []).length/\∀ g∈fs,fs.length<=(xs.getD g.toNat []).length))/\Q (.bl (meetsB xs fs f)) H
def A74:Sp:=fun vs H Q _=>∃ (g dx:Addr) (p:Int),vs=[.ref g,.int p]/\H g=some (.ins CG dx [])/\Hj p/\p<98 ∧
 ∀ (pc sh ed en:Addr) (H':Hp),H pc=none->H sh=none->H ed=none->H en=none->SameX g H H'->Db K CG H' g pc sh ed en p [] [] [] []->Q .non H'
def Qm:Sp:=fun vs H Q _=>∃ (g pc sh ed en:Addr) (p:Int) (xs:List (List Int)) (es ss:List Ms) (bs:Ms),vs=[.ref g]/\Db K CG H g pc sh ed en p xs es ss bs ∧
 ∀ (l:Addr) (us:List V) (H':Hp),H l=none->Same H H'->H' l=some (.lst us)->Reps K H' us (xs.map tI)->Q (.ref l) H'
end
theorem mod_take {p:Int}{ms:Ms}{i:Nat}{q:Int × Int} (hq:ms[i]?=some q):modI p (ms.take (i+1))=if q.2%p=0 then modI p (ms.take i) else modI p (ms.take i)++[(q.1,q.2%p)]:=by
 unfold modI
 rw [List.take_succ,hq,List.filter_append,List.map_append]
 show _++((List.filter _ [q]).map _)=_
 by_cases h:q.2%p=0
 . rw [if_pos h,List.filter_cons_of_neg (by simpa using h)]
   simp
 . rw [if_neg h,List.filter_cons_of_pos (by simpa using h)]
   rfl
theorem R4 {xs:List (List Int)}{p:List Int}{j:Nat} (hj:j<p.length):meetsB xs (p.take j) (p.getD j 0)=(decide ((xs.getD (p.getD j 0).toNat []).length=0) || (List.range j).all fun i=>Mh xs p j i):=by
 unfold meetsB
 have hl:(p.take j).length=j:=by rw [List.length_take];omega
 rw [hl]
 congr 1
 rw [Bool.eq_iff_iff,List.all_eq_true,List.all_eq_true]
 have e:∀ i,i<j->(p.take j).getD i 0=p.getD i 0:=fun i hi=>by rw [List.getD_eq_getElem?_getD,List.getD_eq_getElem?_getD,List.getElem?_take_of_lt hi]
 constructor
 . intro h i hi
   have:=h i hi
   rw [e i (List.mem_range.mp hi)] at this
   exact this
 . intro h i hi
   rw [e i (List.mem_range.mp hi)]
   exact h i hi
theorem Ay7 {xs:List (List Int)}{p:List Int} (hC:Ae2 xs) (hall:∀ f∈p,0<=f/\f<(xs.length:Int)/\levI (xs.getD f.toNat []).length+1=levI p.length):(∀ j,j<p.length->meetsB xs (p.take j) (p.getD j 0)=true)↔(decide (levI p.length<2) || Fw xs p)=true:=by
 constructor
 . intro h
   by_cases hl:levI p.length<2
   . rw [decide_eq_true hl];rfl
   . rw [decide_eq_false hl,Bool.false_or]
     unfold Fw
     rw [List.all_eq_true]
     intro j hj
     have hj':=List.mem_range.mp hj
     have h1:=h j hj'
     rw [R4 hj'] at h1
     obtain⟨x0,x1,x2⟩:=hall _ (Ef (d:=0) hj')
     have hne:¬(xs.getD (p.getD j 0).toNat []).length=0:=fun z=>by rw [z,C3] at x2;omega
     rw [decide_eq_false hne,Bool.false_or] at h1
     exact h1
 . intro h j hj
   rw [R4 hj]
   obtain⟨x0,x1,x2⟩:=hall _ (Ef (d:=0) hj)
   by_cases hl:levI p.length<2
   . have hc:=hC.at x0 x1
     have hz:(xs.getD (p.getD j 0).toNat []).length=0:=by rw [C3] at x2;omega
     rw [decide_eq_true hz];rfl
   . rw [decide_eq_false hl,Bool.false_or] at h
     unfold Fw at h
     rw [List.all_eq_true] at h
     rw [h j (List.mem_range.mpr hj),Bool.or_true]
section
variable {K:W.Frag}{CG CP CS:Addr}
end
theorem init_step {H Hk:Hp}{g a C dx:Addr}{fs:List (Str × V)} (fs':List (Str × V)) {o:HO} (sx:SameX g H Hk) (eg:Hk g=some (.ins C dx fs)) (ha:Hk a=none) :
 SameX g H (upd (upd Hk a o) g (.ins C dx fs'))/\upd (upd Hk a o) g (.ins C dx fs') g=some (.ins C dx fs')/\upd (upd Hk a o) g (.ins C dx fs') a=some o/\(∀ b q,b≠g->Hk b=some q->upd (upd Hk a o) g (.ins C dx fs') b=some q)/\H a=none/\a≠g:=by
 have hag:a≠g:=fun z=>by rw [z,eg] at ha;cases ha
 have pers:∀ b q,b≠g->Hk b=some q->upd (upd Hk a o) g (.ins C dx fs') b=some q:=fun b q n e=>by rw [An n,An (fun z=>by rw [z,ha] at e;cases e)];exact e
 refine⟨fun b q n e=>pers b q n (sx b q n e),Ae,by rw [An hag,Ae],pers,?_,hag⟩
 cases e:H a with
 | none=>rfl
 | some q=>have:=sx a q hag e;rw [ha] at this;cases this
theorem Aa6 (ms:Ms):(cK ms).map (·.1)=(Bn ms).map fun k=>(.inl k:Key):=by
 unfold cK Bn
 rw [List.map_map,List.map_map]
 rfl
theorem Aa5 {ms:Ms} (h:ms≠[]):Bn ms≠[]:=fun z=>h (by unfold Bn at z;simpa using z)
theorem As5 {H H1:Hp}{a:Addr}{o:HO} (h:H a=none) (s:k9 a (upd H a o) H1):Same H H1:=fun c q e=>by
 have n:c≠a:=A8 e h
 exact s c q n (by rw [An n];exact e)
theorem Af4 (l:List Addr) (a:Addr):l.map V.ref++[.ref a]=(l++[a]).map V.ref:=by rw [List.map_append];rfl
theorem Tb {H:Hp}{en d:Addr}{ds:List Addr}{ms:List Ms}{m:Ms} (hl:ds.length=ms.length) (h:∀ (i:Nat) d m,ds[i]?=some d->ms[i]?=some m->H d=some (.dK (cK m))/\d≠en) (hd:H d=some (.dK (cK m))) (hn:d≠en) :
 (ds++[d]).length=(ms++[m]).length/\∀ (i:Nat) d' m',(ds++[d])[i]?=some d'->(ms++[m])[i]?=some m'->H d'=some (.dK (cK m'))/\d'≠en:=by
 refine⟨by simp [hl],fun i d' m' e1 e2=>?_⟩
 rcases D8 e1 with ⟨h1,e1⟩|⟨h1,rfl⟩
 . rcases D8 e2 with ⟨_,e2⟩|⟨h2,_⟩
   . exact h i d' m' e1 e2
   . omega
 . rcases D8 e2 with ⟨h2,_⟩|⟨_,rfl⟩
   . omega
   . exact ⟨hd,hn⟩
theorem FrG.four {pc sh ed en:Addr}{H H7:Hp}{o1 o2 o3 o4:HO} (s:Same H H7):FrG pc sh ed en H (upd (upd (upd (upd H7 pc o1) sh o2) ed o3) en o4) :=
 ((((FrG.of s).trans (FrG.up (.inl rfl))).trans (FrG.up (.inr (.inl rfl)))).trans (FrG.up (.inr (.inr (.inl rfl))))).trans (FrG.up (.inr (.inr (.inr rfl))))
theorem Y4 (n:Int) (ms:Ms):(Bq n ms).length<=ms.length:=by
 unfold Bq
 split
 . exact Nat.zero_le _
 . rw [List.length_map];exact Nat.le_refl _
theorem P2 {n:Int}{ms:Ms} (h:nd ms):nd (Bq n ms):=by
 unfold Bq
 split
 . exact List.nodup_nil
 . exact Kt h _
theorem A75 {a f p:Int} (a0:0<a) (a1:a<p) (f0:0<=f) (f1:f<p) (hp:p<98):-(10000:Int) < -a*f/\-a*f<=0:=by
 have h1:a*f<=97*97:=Int.mul_le_mul (by omega) (by omega) f0 (by omega)
 have h2:0<=a*f:=Int.mul_nonneg (by omega) f0
 have e:-a*f=-(a*f):=Int.neg_mul a f
 omega
theorem lenF {f:Str}{v:V}{fs:List (Str × V)}{n:Nat} (h:fs.length<=n):(putF f v fs).length<=n+1:=Nat.le_trans (L7 f v fs) (by omega)
end Hb
namespace L2
open PySem PySem.Spec PyProof.Rows
theorem Qc {t u:TS}{D:Ends}{σ:St}{H:Hp} (σ1:St) (H1:Hp) (ht:∀ D':Ends,D'.nx σ1 H1->t D' σ H) (h:u D σ1 H1):tSeq t u D σ H:=ht { D with nx:=u D } h
end L2
namespace Hb
open PySem L2
theorem Aq4 {g:TG}{te:TE}{D:Addr}{Q:Hp->Prop}{τ:St}{H:Hp}{K:W.Frag}{a b:Addr}{xs ys:List V}{n:Nat} (hn:xs.length=n/\ys.length=n) (Pv:Nat->List V->St->Hp->Prop) (h0:Pv 0 [] τ H) (hl:∀ i zs τ H,i<=n->Pv i zs τ H->SqT K H a xs/\SqT K H b ys)
 (hs:∀ i x y zs τ H p,xs[i]?=some x->ys[i]?=some y->Pv i zs τ H->H p=none->g (.ref p) τ (upd H p (.tup [x,y])) fun τ2 H2=>te τ2 H2 fun y H4=>H4 D=some (.lst zs)/\zs.length<sizeLine/\Pv (i+1) (zs++[y]) τ2 (upd H4 D (.lst (zs++[y]))))
 (hd:∀ zs τ H,Pv n zs τ H->Q H):RunC (Ityp K a b) g tYes te D Q τ H:=A45 hn Pv h0 hl (fun i x y zs τ H p e1 e2 q hp=>hs i x y zs τ H p e1 e2 q hp) hd
section
variable {K:W.Frag}{CG:Addr}{H H' H1 H2:Hp}{W:Addr->Prop}{g pc sh ed en:Addr}{p:Int}{xs:List (List Int)}{es ss:List Ms}{bs:Ms}
end
end Hb
namespace Hb
open PySem L2
theorem Be0 {α:Type}{l:List α} (h:l.length=2):∃ x y,l=[x,y]:=by
 match l,h with
 | [x,y],_=>exact ⟨x,y,rfl⟩
theorem Bb1 {α:Type}{l:List α} (h:l.length=3):∃ x y z,l=[x,y,z]:=by
 match l,h with
 | [x,y,z],_=>exact ⟨x,y,z,rfl⟩
theorem m8 {p:Int}{f:Nat->Int}:∀{n:Nat},(∀ j,j<n->p∣f j)->p∣sumN f n
 | 0,_=>⟨0,by simp [sumN]⟩
 | n+1,h=>Int.dvd_add (m8 fun j hj=>h j (by omega)) (h n (by omega))
theorem m7 {p:Int}{f g:Nat->Int}{n:Nat} (h:∀ j,j<n->p∣f j-g j):p∣sumN f n-sumN g n:=by
 have e:sumN f n-sumN g n=sumN (fun j=>f j-g j) n:=by
  have:sumN f n=sumN (fun j=>(f j-g j)+g j) n:=Fc fun k _=>by omega
  rw [this,Ws]
  omega
 rw [e]
 exact m8 h
theorem As4 {p:Int}{f:Nat->Int}{i:Nat}:∀{n:Nat},i<n->(∀ j,j<n->j≠i->p∣f j)->p∣sumN f n->p∣f i
 | n+1,hi,h,hs=>by
   have hs:p∣sumN f n+f n:=hs
   by_cases z:i=n
   . subst z
     have h1:p∣sumN f i:=m8 fun j hj=>h j (by omega) (by omega)
     exact (Int.dvd_add_right h1).mp hs
   . have h1:p∣f n:=h n (by omega) (fun e=>z e.symm)
     exact As4 (by omega) (fun j hj hn=>h j (by omega) hn) ((Int.dvd_add_left h1).mp hs)
structure Hi (p:Int) (xs:List (List Int)) (es ss:List Ms):Prop where
 own:∀ (i:Nat) s,ss[i]?=some s->getI s (i:Int)=1
 lev:∀ (i:Nat) s,ss[i]?=some s->∀ x∈Bn s,(xs.getD x.toNat []).length-1=(xs.getD i []).length-1
 bd:∀ (i:Nat) s e,ss[i]?=some s->es[i]?=some e->∀ x:Int,p∣sumN (fun j=>getI s (j:Int)*oft (xs.getD j []) x) xs.length-getI e x
section
variable {p:Int}{xs:List (List Int)}{es ss:List Ms}{bs:Ms}
theorem Bl1 (x:Int):getI [] x=0:=by simp [getI,lookI]
theorem Be9 {l:List Ms}{i:Nat} (h:i<l.length):l[i]?=some (l.getD i []):=by rw [List.getD_eq_getElem?_getD,List.getElem?_eq_getElem h];rfl
end
end Hb
namespace Hb
open PySem L2
structure P1 (p:Int) (xs:List (List Int)) (q:List Int) (ms me:Ms):Prop where
 own:getI ms (xs.length:Int)=1
 lev:∀ x∈Bn ms,x=(xs.length:Int)\/(x<(xs.length:Int)/\(xs.getD x.toNat []).length-1=q.length-1)
 bd:∀ y:Int,p∣sumN (fun j=>getI ms (j:Int)*oft ((xs++[q]).getD j []) y) (xs.length+1)-getI me y
section
variable {p:Int}{xs:List (List Int)}{q:List Int}{es ss:List Ms}{bs ms me:Ms}
theorem Ac1 (a p:Int):p∣a-a%p:=by
 have:=Int.mul_ediv_add_emod a p
 exact ⟨a / p,by omega⟩
theorem A12 (k x:Int):getI [(k,1)] x=if x=k then 1 else 0:=by
 unfold getI lookI
 by_cases h:x=k
 . subst h;simp
 . rw [if_neg h]
   have:¬k=x:=fun z=>h z.symm
   simp [this]
theorem P1.first (hq:∀ f∈q,0<=f):P1 p xs q [((xs.length:Int),1)] (modI p (addF [] q 1)):=by
 refine⟨by rw [A12,if_pos rfl],fun x hx=>?_,fun y=>?_⟩
 . simp [Bn] at hx
   exact .inl hx
 . have e:sumN (fun j=>getI [((xs.length:Int),1)] (j:Int)*oft ((xs++[q]).getD j []) y) (xs.length+1)=oft q y:=by
    have e2:sumN (fun j=>getI [((xs.length:Int),1)] (j:Int)*oft ((xs++[q]).getD j []) y) (xs.length+1)=sumN (fun j=>(if j=xs.length then 1 else 0)*oft ((xs++[q]).getD j []) y) (xs.length+1):=Fc fun j _=>by
     rw [A12]
     by_cases h:j=xs.length
     . rw [if_pos h,if_pos (by omega)]
     . rw [if_neg h,if_neg (by omega)]
    rw [e2,Vo,if_pos (by omega),P9]
   have nad:nd (addF [] q 1):=X1 (ms:=[]) (by simp [nd]) q 1 q.length
   have g:getI (addF [] q 1) y=oft q y:=by
    have:=b5 [] q 1 y q.length
    rw [Bl1,Int.zero_add,Int.mul_one] at this
    exact this
   rw [e,L5 nad,g]
   exact Ac1 _ _
theorem P1.step {i:Nat}{n:Int}{s e:Ms} (hp:2<=p) (h:P1 p xs q ms me) (g:Ox p xs es ss bs) (sh:Hi p xs es ss) (hs:ss[i]?=some s) (he:es[i]?=some e) (o1:OkM p ms) (o2:OkM p me) (hl:(xs.getD i []).length-1=q.length-1) :
 P1 p xs q (modI p (Ed ms (Bq n s))) (modI p (Ed me (Bq n e))):=by
 have hil:i<xs.length:=by rw [←g.ls];exact (List.getElem?_eq_some_iff.mp hs).1
 obtain⟨oS,kS⟩:=g.sok i s hs
 obtain⟨oE,kE⟩:=g.eok i e he
 obtain⟨n1,_,_,g1⟩:=L3 (Bq n s) ms o1.nd o1.nz (P2 oS.nd)
 obtain⟨n2,_,_,g2⟩:=L3 (Bq n e) me o2.nd o2.nz (P2 oE.nd)
 have c1:=(e8 (p:=p) (n:=n) (by omega) o1 oS).2
 have s0:getI s (xs.length:Int)=0:=E9 fun hk=>by have:=kS _ hk;omega
 refine⟨?_,fun x hx=>?_,fun y=>?_⟩
 . rw [L5 n1,g1,J4,h.own,s0,Int.mul_zero,Int.add_zero]
   exact Int.emod_eq_of_lt (by decide) (by omega)
 . rcases c1 x hx with z | z
   . exact h.lev x z
   . have k1:=kS x z
     have l1:=sh.lev i s hs x z
     exact .inr ⟨by omega,by omega⟩
 . have a1:=h.bd y
   have a2:=sh.bd i s e hs he y
   have e0:sumN (fun j=>getI s (j:Int)*oft ((xs++[q]).getD j []) y) (xs.length+1)=sumN (fun j=>getI s (j:Int)*oft (xs.getD j []) y) xs.length:=by
    show sumN _ xs.length+getI s (xs.length:Int)*_=_
    rw [s0,Int.zero_mul,Int.add_zero]
    exact Fc fun j hj=>by rw [D7 hj]
   have e1:p∣sumN (fun j=>(getI ms (j:Int)+n*getI s (j:Int))*oft ((xs++[q]).getD j []) y) (xs.length+1)-sumN (fun j=>getI (modI p (Ed ms (Bq n s))) (j:Int)*oft ((xs++[q]).getD j []) y) (xs.length+1):=m7 fun j _=>by
    rw [←Int.sub_mul,L5 n1,g1,J4]
    exact Int.dvd_trans (Ac1 _ _) (Int.dvd_mul_right ..)
   have e2:sumN (fun j=>(getI ms (j:Int)+n*getI s (j:Int))*oft ((xs++[q]).getD j []) y) (xs.length+1)=sumN (fun j=>getI ms (j:Int)*oft ((xs++[q]).getD j []) y) (xs.length+1)+n*sumN (fun j=>getI s (j:Int)*oft (xs.getD j []) y) xs.length:=by
    rw [←e0,←Y5,←Ws]
    exact Fc fun j _=>by rw [Int.add_mul,Int.mul_assoc]
   rw [e2] at e1
   have e3:p∣(getI me y+n*getI e y)-getI (modI p (Ed me (Bq n e))) y:=by
    rw [L5 n2,g2,J4]
    exact Ac1 _ _
   generalize sumN (fun j=>getI (modI p (Ed ms (Bq n s))) (j:Int)*oft ((xs++[q]).getD j []) y) (xs.length+1)=A at e1 ⊢
   generalize sumN (fun j=>getI ms (j:Int)*oft ((xs++[q]).getD j []) y) (xs.length+1)=B at a1 e1
   generalize sumN (fun j=>getI s (j:Int)*oft (xs.getD j []) y) xs.length=C at a2 e1
   generalize getI (modI p (Ed me (Bq n e))) y=E at e3 ⊢
   have a3:p∣n*(C-getI e y):=Int.dvd_trans a2 (Int.dvd_mul_left ..)
   rw [Int.mul_sub] at a3
   have t:=Int.dvd_add (Int.dvd_add (Int.dvd_sub (Int.dvd_add a1 a3) (Int.dvd_refl p)) (Int.dvd_refl p)) e3
   have t2:=Int.dvd_sub t e1
   have:B-getI me y+(n*C-n*getI e y)-p+p+(getI me y+n*getI e y-E)-(B+n*C-A)=A-E:=by omega
   rw [this] at t2
   exact t2
theorem Hi.nil:Hi p [] [] []:=⟨fun i s h=>by simp at h,fun i s h=>by simp at h,fun i s e h=>by simp at h⟩
theorem Hi.grow (g:Ox p xs es ss bs) (sh:Hi p xs es ss) (h:P1 p xs q ms me):Hi p (xs++[q]) (es++[me]) (ss++[ms]):=by
 refine⟨fun i s hs=>?_,fun i s hs x hx=>?_,fun i s e hs he y=>?_⟩
 . rcases D8 hs with ⟨_,hs⟩|⟨rfl,rfl⟩
   . exact sh.own i s hs
   . rw [g.ls];exact h.own
 . rcases D8 hs with ⟨hl,hs⟩|⟨rfl,rfl⟩
   . rw [g.ls] at hl
     have k1:=(g.sok i s hs).2 x hx
     rw [D7 (by omega),D7 hl]
     exact sh.lev i s hs x hx
   . rw [g.ls,P9]
     rcases h.lev x hx with z|⟨z1,z2⟩
     . subst z
       rw [show ((xs.length:Nat):Int).toNat=xs.length by omega,P9]
     . by_cases h0:x<0
       . rw [show x.toNat=0 by omega] at z2 ⊢
         by_cases hx0:0<xs.length
         . rw [D7 hx0];exact z2
         . have:xs=[]:=List.length_eq_zero_iff.mp (by omega)
           subst this
           rfl
       . rw [D7 (by omega)];exact z2
 . rw [List.length_append,show xs.length+[q].length=xs.length+1 from rfl]
   rcases D8 hs with ⟨hl,hs⟩|⟨hl,rfl⟩
   . rcases D8 he with ⟨_,he⟩|⟨hl2,_⟩
     . have s0:getI s (xs.length:Int)=0:=E9 fun hk=>by have:=(g.sok i s hs).2 _ hk;rw [g.ls] at hl;omega
       have e0:sumN (fun j=>getI s (j:Int)*oft ((xs++[q]).getD j []) y) (xs.length+1)=sumN (fun j=>getI s (j:Int)*oft (xs.getD j []) y) xs.length:=by
        show sumN _ xs.length+getI s (xs.length:Int)*_=_
        rw [s0,Int.zero_mul,Int.add_zero]
        exact Fc fun j hj=>by rw [D7 hj]
       rw [e0]
       exact sh.bd i s e hs he y
     . rw [g.ls] at hl;rw [g.le] at hl2;omega
   . rcases D8 he with ⟨hl2,_⟩|⟨_,rfl⟩
     . rw [g.ls] at hl;rw [g.le] at hl2;omega
     . exact h.bd y
end
end Hb
namespace L2
open PySem PySem.Spec PyProof.Rows
section
variable {prog:Program}{w:World}{A:Around}{R:Result->Shared->Prop}
end
end L2
namespace Hb
open PySem L2
def C6 (es:List Ms) (n:Nat):List Nat:=(List.range n).filter fun i=>(es.getD i []).isEmpty
theorem Aq6 (es:List Ms) (n:Nat):C6 es (n+1)=if es.getD n []=[] then C6 es n++[n] else C6 es n:=by
 unfold C6
 rw [List.range_succ,List.filter_append]
 by_cases h:es.getD n []=[]
 . rw [if_pos h,List.filter_cons_of_pos (by simpa using h)]
   rfl
 . rw [if_neg h,List.filter_cons_of_neg (by simpa using h)]
   simp
theorem Tj (es:List Ms) (n:Nat):(C6 es n).length<=n:=by
 unfold C6
 have:=List.length_filter_le (fun i=>(es.getD i []).isEmpty) (List.range n)
 simpa using this
theorem i7 {es:List Ms}{n i:Nat}:i∈C6 es n↔i<n/\es.getD i []=[]:=by
 unfold C6
 rw [List.mem_filter,List.mem_range]
 simp
def endV (bs:Ms) (i:Int):V:=match lookI bs i with
 | some e=>.int e
 | none=>.non
def endD (bs:Ms) (i:Int):L2.D:=match lookI bs i with
 | some e=>.int e
 | none=>.non
theorem Bg6 {K:W.Frag}{H:Hp} (bs:Ms) (i:Int):Rep K H (endV bs i) (endD bs i):=by
 unfold endV endD
 cases lookI bs i<;>rfl
theorem Bl3 (bs:Ms) (i:Int):((lookI bs i).map V.int).getD .non=endV bs i:=by
 unfold endV
 cases lookI bs i<;>rfl
def Hv (bs:Ms) (i:Nat):L2.D:=.tup [.int (i:Int),endD bs (i:Int)]
def La (es:List Ms) (bs:Ms) (n:Nat):List L2.D:=(C6 es n).map (Hv bs)
abbrev Oz (es:List Ms) (bs:Ms):List L2.D:=La es bs es.length
theorem Ak7 (es:List Ms) (bs:Ms) (n:Nat):(La es bs n).length<=n:=by
 unfold La;rw [List.length_map];exact Tj es n
theorem A97 (bs:Ms) (i:Nat):imm (Hv bs i)=true:=by
 unfold Hv endD
 cases lookI bs (i:Int)<;>rfl
theorem Nv (bs:Ms):∀ l:List Nat,imms (l.map (Hv bs))=true
 | []=>rfl
 | i::l=>by
   show (imm (Hv bs i)&&imms (l.map (Hv bs)))=true
   rw [A97,Nv bs l]
   rfl
theorem A98 (bs:Ms) (i:Nat):dep (Hv bs i)<=2:=by
 unfold Hv endD
 cases lookI bs (i:Int)<;>simp [dep,deps]
theorem Vs (bs:Ms):∀ l:List Nat,deps (l.map (Hv bs))<=2
 | []=>by simp [deps]
 | i::l=>by
   have h1:=A98 bs i
   have h2:=Vs bs l
   simp only [List.map_cons,deps]
   omega
def AnsE (me:Ms) (r:V):Prop:=(me=[]/\r=.non)\/∃ b,Top me b/\r=.int b
section
variable (K:W.Frag) (CG:Addr)
def Lw (_K:W.Frag):Sp:=fun vs H Q _=>∃ c:Int,vs=[.int c]/\∀ (p:Int) (H':Hp),Same H H'->Hj p->p<98->Q (.int p) H'
def Wv:Sp:=fun vs H Q _=>∃ (a:Addr) (us:List V),vs=[.ref a]/\SqL K H a us/\us.length<=40/\Q .non H
def Qf:Sp:=fun vs H Q _=>∃ (c:Addr) (ns:List Int) (kind most:Int),vs=[.int kind,.ref c,.int most]/\SqL K H c (ns.map V.int)/\ns.length<=63/\0<=most/\most<=40 ∧
 ∀ (p:Addr) (us:List V) (xs:List (List Int)) (H':Hp),H p=none->Same H H'->H' p=some (.lst us)->Reps K H' us (xs.map tI)->Fx xs->(xs.length:Int)<=most->Q (.ref p) H'
def Jo:Sp:=fun vs H Q _=>∃ (g pc sh ed en s e:Addr) (p:Int) (xs:List (List Int)) (es ss:List Ms) (bs ms me:Ms) (l:Nat) (pq:List Int),vs=[.ref g,.ref s,.ref e]/\Db K CG H g pc sh ed en p xs es ss bs/\H s=some (.dK (cK ms))/\H e=some (.dK (cK me))/\s≠en/\e≠en/\OkM p ms/\OkM p me ∧
 (∀ x∈Bn ms,0<=x/\x<=(xs.length:Int))/\(∀ x∈Bn me,0<=x/\x<(xs.length:Int)/\(xs.getD x.toNat []).length-1+1=l)/\Hi p xs es ss/\P1 p xs pq ms me/\l=pq.length-1 ∧
 ∀ (t s' e':Addr) (ms' me':Ms) (H':Hp),Same H H'->H' t=some (.tup [.ref s',.ref e'])->H' s'=some (.dK (cK ms'))->H' e'=some (.dK (cK me'))->s'≠en->e'≠en->OkM p ms'->OkM p me'->(∀ x∈Bn ms',0<=x/\x<=(xs.length:Int)) →
   (∀ x∈Bn me',0<=x/\x<(xs.length:Int)/\(xs.getD x.toNat []).length-1+1=l)->(∀ b,Top me' b->lookI bs b=none)->P1 p xs pq ms' me'->Q (.ref t) H'
def Qn:Sp:=fun vs H Q _=>∃ (g pc sh ed en:Addr) (v:V) (p:Int) (xs:List (List Int)) (q:List Int) (es ss:List Ms) (bs:Ms),vs=[.ref g,v]/\Db K CG H g pc sh ed en p xs es ss bs/\TI K H v q/\Fz xs (tI q)=true/\xs.length<40/\Hi p xs es ss ∧
 ∀ (r:V) (me ms bs':Ms) (H':Hp),FrG pc sh ed en H H'->Db K CG H' g pc sh ed en p (xs++[q]) (es++[me]) (ss++[ms]) bs'->Hi p (xs++[q]) (es++[me]) (ss++[ms])->AnsE me r->Q r H'
def Mp:Sp:=fun vs H Q _=>∃ (g pc sh ed en:Addr) (p:Int) (xs:List (List Int)) (es ss:List Ms) (bs:Ms),vs=[.ref g]/\Db K CG H g pc sh ed en p xs es ss bs ∧
 ∀ (l:Addr) (us:List V) (H':Hp),H l=none->Same H H'->H' l=some (.lst us)->Reps K H' us (Oz es bs)->Q (.ref l) H'
end
end Hb
namespace Hb
open PySem L2
theorem Bl6 {xs:List (List Int)}{q:List Int} (h:Fits xs q):Fz xs (tI q)=true:=by
 show Fz xs (.tup (nums q))=true
 rw [Dq]
 have hl:(nums q).length=q.length:=by unfold nums;rw [List.length_map]
 have hin:∀ f∈q,0<=f/\f<(xs.length:Int)/\(xs.getD f.toNat []).length-1+1=q.length-1/\xs[f.toNat]?=some (xs.getD f.toNat []):=fun f hf=>by
  obtain⟨r,hr,hlv⟩:=h.bel f hf
  have h0:=h.low f hf
  have hlt:=(List.getElem?_eq_some_iff.mp hr).1
  have e:xs.getD f.toNat []=r:=by rw [List.getD_eq_getElem?_getD,hr];rfl
  rw [e]
  exact ⟨h0,by omega,hlv,hr⟩
 simp only [Bool.and_eq_true,Bool.or_eq_true,decide_eq_true_eq]
 refine⟨⟨?_,?_⟩,?_⟩
 . rw [hl]
   unfold cntB
   rcases h.cnt with z | z | z | z<;>rw [z]<;>rfl
 . rw [List.all_eq_true]
   intro d hd
   obtain⟨f,hf,rfl⟩:=List.mem_map.mp hd
   obtain⟨h0,h1,h2,_⟩:=hin f hf
   show (decide (0<=f)&&decide (f<(xs.length:Int))&&decide (levI (xs.getD f.toNat []).length=levI (nums q).length-1))=true
   rw [hl,C3,C3,decide_eq_true h0,decide_eq_true h1,decide_eq_true (by omega)]
   rfl
 . rw [hl,Ay9]
   by_cases hq:levI q.length<2
   . exact .inl hq
   right
   rw [C3] at hq
   unfold Fw
   rw [List.all_eq_true]
   intro j hj
   rw [List.all_eq_true]
   intro i hi
   have hj':=List.mem_range.mp hj
   have hi':=List.mem_range.mp hi
   have ej:q[j]?=some (q.getD j 0):=by rw [List.getD_eq_getElem?_getD,List.getElem?_eq_getElem hj'];rfl
   have ei:q[i]?=some (q.getD i 0):=by rw [List.getD_eq_getElem?_getD,List.getElem?_eq_getElem (by omega)];rfl
   obtain⟨_,_,_,rj⟩:=hin _ (List.mem_of_getElem? ej)
   obtain⟨_,_,_,ri⟩:=hin _ (List.mem_of_getElem? ei)
   have:=h.agr (by omega) i j _ _ _ _ hi' ej ei rj ri
   unfold Mh
   rw [decide_eq_true_eq]
   have e1:∀ (l:List Int) (k:Nat),l.getD k 0=l[k]?.getD 0:=fun l k=>List.getD_eq_getElem?_getD
   rw [e1 (xs.getD (q.getD j 0).toNat []) i,e1 (xs.getD (q.getD i 0).toNat []) (j-1),this]
end Hb
namespace L2
open PySem PySem.Spec PyProof.Rows PySem.W
section
variable {P:Program}{w:World}{K:Frag}{mg:Str->Option Value}{base:Heap}{ds:List Value}
theorem FunD.okX {x qual:Str}{st:Stmt}{f:Addr}{fd:FuncData}{N ps:List Str}{k:Nat}{sp:Sp} (F:FunD K x qual st f fd ds) (S:FnScope N ps (Aj st)) (len:∀ vs H Q E,sp vs H Q E->vs.length=ps.length)
 (hbody:∀ (Bw:Value) (A:Around) (outer:List Env) (s:Shared) (H:Hp) (vs:List V) (Q:VK) (E:XK),Room k (A.deeper (envOfC qual (Aj st) s.heap.objs.size f Bw))->sp vs H Q E →
   ∃ t,PSs (cxOf (CX1 P w) P w K mg base N qual (Aj st) f Bw A outer s H E) (Ba st) t/\t { nx:=fun _ H'=>Q .non H',rt:=Q } (start N vs) H):FnOk P w K mg base (CX1 P w) (k+1) f fd ps sp:=by
 obtain⟨oc,od,kV,doc,pm,an,Bw,ct,osl,dt,tn,tsl,tdd,rfl,lk,hcd,_⟩:=F.ex
 exact Bl5 lk hcd S len fun A outer s H vs Q E hr hsp=>hbody Bw A outer s H vs Q E hr hsp
end
structure HasMXD (P:Program) (w:World) (K:Frag) (mg:Str->Option Value) (base:Heap) (C:Addr) (m:Str) (ps:List Str) (dvs:List V) (k:Nat) (sp:Sp):Prop where
 ex:∃ (f:Addr) (fd:FuncData) (ds:List Value),Meth K C m f/\Gi K fd ps ds/\Vals dvs ds/\FnOk P w K mg base (CX1 P w) k f fd ps sp
structure A67 (P:Program) (w:World) (K:Frag) (mg:Str->Option Value) (base:Heap) (C:Addr) (ps:List Str) (k:Nat) (sp:Sp):Prop where
 ex:∃ (f:Addr) (fd:FuncData),Mk K C f/\Gi K fd ps []/\FnOk P w K mg base (CX1 P w) k f fd ps sp
theorem A67.down {P:Program}{w:World}{K:Frag}{mg:Str->Option Value}{base:Heap}{C:Addr}{ps:List Str}{k:Nat}{sp sp':Sp} (h:A67 P w K mg base C ps k sp) (hi:∀ vs H Q E,sp' vs H Q E->sp vs H Q (fun _ _ _=>False)):HasC P w K mg base C ps k sp':=by
 obtain⟨f,fd,h1,h3,h4⟩:=h.ex
 refine⟨f,fd,h1,h3,⟨fun vs H Q E z=>h4.len vs H Q _ (hi vs H Q E z),fun A outer s H args us vs Q E hr he hb hv hs=>codeAny_mono (h4.run A outer s H args us vs Q _ hr he hb hv (hi vs H Q E hs)) fun r s' q=>?_⟩⟩
 cases r with
 | error u =>
   obtain⟨_,_,_,_,_,_,_,_,_,_,_,_,_,z⟩:=q
   exact z.elim
 | ok fl=>cases fl<;>exact q
def Bf6 (C:Addr) (m:Str) (sp:Sp) (dvs:List V) (J:XJ) (ta:TE) (t:TA):TE:=fun σ H Q=>ta σ H fun x H1=>∃ a dx fs,x=.ref a/\H1 a=some (.ins C dx fs)/\fs.lookup m=none ∧
 t σ H1 fun vs H2=>sp (x::(vs++dvs)) H2 Q (fun cls ed H3=>J cls ed σ H3)
def Bo0 (C:Addr) (sp:Sp) (J:XJ) (t:TA):TE:=fun σ H Q=>t σ H fun vs H1=>∀ x dx,H1 x=none->H1 dx=none->dx≠x →
 sp (.ref x::vs) (upd (upd H1 dx (.own x)) x (.ins C dx [])) (fun v H2=>v=.non/\Q (.ref x) H2) (fun cls ed H3=>J cls ed σ H3)
section
variable {X:Cx}{J:XJ}{j k:Nat}{C:Addr}{ps:List Str}{dvs:List V}{sp:Sp}{m x:Str}{p pos apos:Pos}{e o:Expr}{es:List Expr}{ta:TE}{t:TA}
theorem A79 {Ab:List (Addr × Obj)}{σ:St}{H:Hp}{s:Shared}{Q:VK}{us ds:List Value}{vs:List V}{f:Addr}{fd:FuncData} (F:FnOk X.prog X.w X.K X.mg X.base (CX1 X.prog X.w) k f fd ps sp) (hr:Room k X.A) (hb:Gi X.K fd ps ds) (hd:Vals dvs ds) (hx:Y0 X J)
 (I:Inv X Ab σ H s) (r:Vals vs us) (h:sp (vs++dvs) H Q (fun cls dx H2=>J cls dx σ H2)):wpAny (model X.prog X.w) X.A (call (.ref f) us) (EP X Ab σ Q) X.xe s:=by
 have r2:Vals (vs++dvs) (us++ds):=r.append hd
 have hl:(us++ds).length=ps.length:=by rw [←r2.length];exact F.len _ _ _ _ h
 have hb1:=hb s us I.kIn hl
 refine wpAny_call (codeAny_mono (F.run X.A X.stack s H ⟨us,[]⟩ (us++ds) (vs++dvs) Q _ hr I.env0 hb1 r2 h) fun q s' hq=>?_)
 cases q with
 | error u =>
   obtain⟨e,cls,a0,B,H',dx,rfl,q1,q2,q3,q4,q5,dE,q6⟩:=hq
   exact hx _ _ ⟨e,cls,a0,dx,σ,H',rfl,⟨B,H,s,I.nopin,q1,q2,q3,q4,q5,dE⟩,q6⟩
 | ok fl =>
   cases fl with
   | ret u=>exact I.after hq
   | next=>exact False.elim hq
   | brk=>exact False.elim hq
   | cont=>exact False.elim hq
theorem Av7 {pl:Sem Bool} (hx:Y0 X J) (he:PE X o ta) (c:Cls X.K C) (h:HasMXD X.prog X.w X.K X.mg X.base C m ps dvs j sp) (hr:Room k X.A) (ha:PA X (e::es) t) (hk:j<=k:=by decide)
 (hst:starEach (e::es) X.env=(false,eval e X.env)::starEach es X.env:=by rfl) (hpl:(backTo pos (starEach es X.env)).any (·.1)=false:=by rfl)
 (ht:eval (.Call (.Attribute o m apos) (e::es) [] pos) X.env=(do
   let ov ←eval o X.env
   standAt apos.atName
   let (f,first) ←holding [ov] (getMethod ov m pl)
   callWith pos f first (backTo pos (starEach (e::es) X.env)) (backToKw pos (keywordEach [] X.env))):=by rfl) :
 PE X (.Call (.Attribute o m apos) (e::es) [] pos) (Bf6 C m sp dvs J ta t):=by
 obtain⟨f,fd,ds,hm,hb,hd,F⟩:=h.ex
 intro Ab s σ H Q I hw
 refine methodCall_KW (pl:=pl) (thn (he Ab s σ H _ I hw) fun u s1 ⟨x,H1,I1,rx,a,dx,fs,ex,ea,l,q⟩=>?_) ht
 subst ex
 obtain rfl:u=Value.ref a:=rx
 refine G5 I1 ea c hm l ?_
 refine callWith_K (first:=[.ref a]) (h₀:=X.base) I.ok.mod.kin hm.kp (thn (ha pos Ab s1 σ H1 _ I1 q) fun us s2 ⟨vs,H2,I2,r,q2⟩=>⟨I2.kIn,?_⟩) hst hpl
 exact A79 (us:=.ref a::us) (vs:=.ref a::vs) F (hr.mono hk) hb hd hx I2 (.cons rfl r) q2
theorem At9 {Ab:List (Addr × Obj)}{σ:St}{H:Hp}{s:Shared}{Q:VK}{us:List Value}{vs:List V}{f:Addr}{fd:FuncData} (M:Mk X.K C f) (F:FnOk X.prog X.w X.K X.mg X.base (CX1 X.prog X.w) k f fd ps sp) (hr:Room (k+1) X.A) (hb:Gi X.K fd ps []) (hx:Y0 X J)
 (I:Inv X Ab σ H s) (r:Vals vs us)
 (h:∀ x dx,H x=none->H dx=none->dx≠x->sp (.ref x::vs) (upd (upd H dx (.own x)) x (.ins C dx [])) (fun v H2=>v=.non/\Q (.ref x) H2) (fun cls ed H3=>J cls ed σ H3)) :
 wpAny (model X.prog X.w) X.A (call (.ref C) us) (EP X Ab σ Q) X.xe s:=by
 have hq:=h (s.heap.objs.size+1) s.heap.objs.size (I.hok.fresh (Nat.le_succ _)) (I.hok.fresh (Nat.le_refl _)) (Nat.ne_of_lt (Nat.lt_succ_self _))
 have I2:=Inv.made (C:=C) I
 have r2:Vals (V.ref (s.heap.objs.size+1)::vs) (Value.ref (s.heap.objs.size+1)::us):=.cons rfl r
 have hl:(Value.ref (s.heap.objs.size+1)::us).length=ps.length:=by
  have e:=r2.length
  rw [F.len _ _ _ _ hq] at e
  exact e.symm
 have hb1:=hb _ (Value.ref (s.heap.objs.size+1)::us) I2.kIn (by rw [List.append_nil];exact hl)
 rw [List.append_nil] at hb1
 refine wpAny_call (Af5 (f:=f) I.kIn M.makes M.init (beq_iff_eq.mp M.fn) (codeAny_mono (F.run _ X.stack _ _ ⟨Value.ref (s.heap.objs.size+1)::us,[]⟩ (Value.ref (s.heap.objs.size+1)::us) _ _ _ (hr.make C us [])
  (I2.env0.make C us []) hb1 r2 hq) fun r s' hq'=>?_))
 cases r with
 | error u =>
   obtain⟨e,cls,a0,B,H',dx,rfl,q1,q2,q3,q4,q5,dE,q6⟩:=hq'
   exact hx _ _ ⟨e,cls,a0,dx,σ,H',rfl,⟨B,_,_,I2.nopin,q1,q2,q3,q4,q5,dE⟩,q6⟩
 | ok fl =>
   cases fl with
   | ret u =>
     obtain⟨v,H',I3,rv,ev,q3⟩:=I2.after hq'
     subst ev
     exact ⟨rv,⟨V.ref (s.heap.objs.size+1),H',I3,rfl,q3⟩⟩
   | next=>exact False.elim hq'
   | brk=>exact False.elim hq'
   | cont=>exact False.elim hq'
theorem A88 (hx:Y0 X J) (h:A67 X.prog X.w X.K X.mg X.base C ps j sp) (hr:Room k X.A) (hg:Gl X x) (hm:X.mg x=some (.ref C)) (ha:PA X (e::es) t) (hk:j+1<=k:=by decide) (hdb:(x==("__debug__":Str))=false:=by decide)
 (he:starEach (e::es) X.env=(false,eval e X.env)::starEach es X.env:=by rfl) (hpl:(backTo pos (starEach es X.env)).any (·.1)=false:=by rfl):PE X (.Call (.Name x p) (e::es) [] pos) (Bo0 C sp J t):=by
 obtain⟨f,fd,M,hb,F⟩:=h.ex
 intro Ab s σ H Q I hw
 refine wpAny_Call_Name_kw (Jy I hg hm ?_ hdb)
 refine PySem.W.callWith_K (h₀:=X.base) I.ok.mod.kin M.kp (thn (ha pos Ab s σ H _ I hw) fun us s1 ⟨vs,H1,I1,r,q⟩=>⟨I1.kIn,?_⟩) he hpl
 exact At9 M F (hr.mono hk) hb hx I1 r q
end
end L2
namespace Hb
open PySem L2
def Ae3:DE->Bool
 | .d d=>Qb d
 | .nul=>false
def B7 (e:DE) (b:Int):Bool:=match e with
 | .d d=>Be7 d b
 | .nul=>false
def Yb (e:DE) (lo hi:Int):Bool:=match e with
 | .d (.int i)=>decide (lo<=i)&&decide (i<=hi)
 | _=>false
theorem Vm {e:DE} (h:Ae3 e=true):∃ i,e=.d (.int i):=by
 cases e with
 | nul=>cases h
 | d d =>
   obtain⟨i,rfl⟩:=Vn h
   exact ⟨i,rfl⟩
theorem D4 {e:DE}{b:Int} (h:B7 e b=true):∃ i,e=.d (.int i)/\0<=i/\i<b:=by
 cases e with
 | nul=>cases h
 | d d =>
   cases d with
   | int i =>
     have h':(decide (0<=i)&&decide (i<b))=true:=h
     simp at h'
     exact ⟨i,rfl,h'⟩
   | _=>cases h
theorem Hh {i b:Int} (h0:0<=i) (h1:i<b):B7 (.d (.int i)) b=true:=by
 show (decide (0<=i)&&decide (i<b))=true
 rw [decide_eq_true h0,decide_eq_true h1]
 rfl
theorem Oe (e:DE) (n:Int):Yb e 0 n=B7 e (n+1):=by
 cases e with
 | nul=>rfl
 | d d =>
   cases d with
   | int i =>
     show (decide (0<=i)&&decide (i<=n))=(decide (0<=i)&&decide (i<n+1))
     congr 1
     exact decide_eq_decide.mpr (by omega)
   | _=>rfl
def O9 (e:DE):Prop:=∃ p,e=.d (.int p)/\Hj p/\p<98
def N8 (n:Nat):List Bool:=(List.range 16).map fun k=>decide (k=0) || decide (k=n)
def Nx (n:Int):List Bool:=(List.range 16).map fun (k:Nat)=>(nums [0,n]).any fun e=>eqD e (.int (k:Int))
theorem Re (n:Nat):Nx (n:Int)=N8 n:=by
 unfold Nx N8
 refine List.map_congr_left fun k _=>?_
 simp only [nums,List.map_cons,List.map_nil,List.any_cons,List.any_nil,eqD,Bool.or_false]
 rw [Bool.eq_iff_iff]
 simp
 omega
def blD (l:List Bool):L2.D:=.lst (l.map L2.D.bl)
theorem Au3 {K:W.Frag}{H:Hp}:∀ l:List Bool,Reps K H (l.map V.bl) (l.map L2.D.bl)
 | []=>rfl
 | b::l=>⟨_,_,rfl,rfl,Au3 l⟩
theorem Nq {K:W.Frag}{H:Hp}{M:Addr}{l:List Bool} (h:H M=some (.lst (l.map V.bl))):Rep K H (.ref M) (blD l):=⟨M,_,rfl,.of h,Au3 l⟩
theorem Ag3:∀ l:List Bool,deps (l.map L2.D.bl)<=1
 | []=>by simp [deps]
 | b::l=>by
   have:=Ag3 l
   simp only [List.map_cons,deps,dep]
   omega
theorem Ac4 (l:List Bool):dep (blD l)<=2:=by
 have:=Ag3 l
 show deps (l.map L2.D.bl)+1<=2
 omega
theorem Au2 {K:W.Frag}{H:Hp}{e:DE} (h:RepE K H .non e):e=.d .non:=by
 cases e with
 | nul=>obtain⟨a,z,_⟩:=h;cases z
 | d d =>
   cases d with
   | non=>rfl
   | bl b=>exact absurd h (by intro z;cases z)
   | int i=>exact absurd h (by intro z;cases z)
   | str s=>exact absurd h (by intro z;cases z)
   | tup ds=>obtain⟨a,_,z,_⟩:=h;cases z
   | lst ds=>obtain⟨a,_,z,_⟩:=h;cases z
theorem Xc {K:W.Frag}{H:Hp}{v:V}{bs:Ms}{j:Nat} (h:Rep K H v (Hv bs j)):∃ t,v=.ref t/\SqT K H t [.int (j:Int),endV bs (j:Int)]:=by
 obtain⟨au,vs,rfl,squ,rv⟩:=h
 obtain⟨v1,vs1,rfl,r1,rv⟩:=rv
 obtain⟨v2,vs2,rfl,r2,rv⟩:=rv
 obtain rfl:vs2=[]:=rv
 obtain rfl:v1=.int (j:Int):=r1
 refine⟨au,rfl,?_⟩
 have:v2=endV bs (j:Int):=by
  unfold endD at r2
  unfold endV
  cases hl:lookI bs (j:Int) with
  | none=>rw [hl] at r2;exact r2
  | some e=>rw [hl] at r2;exact r2
 rw [←this]
 exact squ
structure Bu6 (K:W.Frag) (Ds:List Addr) (C:Addr) (n:Nat):Prop where
 x:ExcC K C
 v:PySem.W.kitOne K (.ref C) (.type "ValueError")=some true
 i:∀ (k:Nat) (D:Addr),Ds[k]?=some D->PySem.W.kitOne K (.ref C) (.ref D)=some (decide (k+1=n))
theorem Vt {K:W.Frag}{C c1 c2 c3 c4 c5 c6 c7 c8 c9 c10 c11 c12 c13 c14 c15:Addr}{n:Nat} (h1:PySem.W.kitOne K (.ref C) (.ref c1)=some (decide (1=n))) (h2:PySem.W.kitOne K (.ref C) (.ref c2)=some (decide (2=n))) (h3:PySem.W.kitOne K (.ref C) (.ref c3)=some (decide (3=n))) (h4:PySem.W.kitOne K (.ref C) (.ref c4)=some (decide (4=n))) (h5:PySem.W.kitOne K (.ref C) (.ref c5)=some (decide (5=n))) (h6:PySem.W.kitOne K (.ref C) (.ref c6)=some (decide (6=n))) (h7:PySem.W.kitOne K (.ref C) (.ref c7)=some (decide (7=n))) (h8:PySem.W.kitOne K (.ref C) (.ref c8)=some (decide (8=n))) (h9:PySem.W.kitOne K (.ref C) (.ref c9)=some (decide (9=n))) (h10:PySem.W.kitOne K (.ref C) (.ref c10)=some (decide (10=n))) (h11:PySem.W.kitOne K (.ref C) (.ref c11)=some (decide (11=n))) (h12:PySem.W.kitOne K (.ref C) (.ref c12)=some (decide (12=n))) (h13:PySem.W.kitOne K (.ref C) (.ref c13)=some (decide (13=n))) (h14:PySem.W.kitOne K (.ref C) (.ref c14)=some (decide (14=n))) (h15:PySem.W.kitOne K (.ref C) (.ref c15)=some (decide (15=n))) :
 ∀ (k:Nat) (D:Addr),([c1,c2,c3,c4,c5,c6,c7,c8,c9,c10,c11,c12,c13,c14,c15]:List Addr)[k]?=some D->PySem.W.kitOne K (.ref C) (.ref D)=some (decide (k+1=n)):=fun k D e=>by
 match k,e with
 | 0,e=>cases e;exact h1
 | 1,e=>cases e;exact h2
 | 2,e=>cases e;exact h3
 | 3,e=>cases e;exact h4
 | 4,e=>cases e;exact h5
 | 5,e=>cases e;exact h6
 | 6,e=>cases e;exact h7
 | 7,e=>cases e;exact h8
 | 8,e=>cases e;exact h9
 | 9,e=>cases e;exact h10
 | 10,e=>cases e;exact h11
 | 11,e=>cases e;exact h12
 | 12,e=>cases e;exact h13
 | 13,e=>cases e;exact h14
 | 14,e=>cases e;exact h15
 | k+15,e=>simp at e
section
variable (K:W.Frag)
def Ji (c1 c2 c3 c4 c5 c6 c7 c8 c9 c10 c11 c12 c13 c14 c15:Addr):Sp:=fun vs H Q _=>∃ (e C:Addr) (n:Nat),vs=[.ref e]/\H e=some (excO e (.ref C))/\Bu6 K [c1,c2,c3,c4,c5,c6,c7,c8,c9,c10,c11,c12,c13,c14,c15] C n/\∀ (M:Addr) (H':Hp),Same H H'->H' M=some (.lst ((N8 n).map V.bl))->Q (.ref M) H'
end
def aliveB (bs:Ms) (st:Int) (i:Nat):Bool:=decide ((i:Int)<st)&&(match lookI bs (i:Int) with
 | some e=>decide (st<=e)
 | none=>true)
def levB (xs:List (List Int)) (k:Int) (i:Nat):Bool:=decide (levI (xs.getD i []).length=k)
def F7 (xs:List (List Int)) (es:List Ms) (bs:Ms) (k st:Int):Nat:=((C6 es es.length).filter fun i=>levB xs k i&&aliveB bs st i).length
def dueA (xs:List (List Int)) (es:List Ms) (bs:Ms) (ek est:DE):L2.D :=
 if B7 ek 4=true then (match est with
  | .d .non=>.tup [.lst [],.int (F7 xs es bs (match ek with | .d (.int k)=>k | _=>0) (xs.length:Int):Nat)]
  | _=>if B7 est ((xs.length:Int)+1)=true then .tup [.lst [],.int (F7 xs es bs (match ek with | .d (.int k)=>k | _=>0) (match est with | .d (.int s)=>s | _=>0):Nat)]
    else .tup [blD (Nx 11),.non])
 else .tup [blD (Nx 4),.non]
section
variable (K:W.Frag) (CG:Addr)
def Et:Sp:=fun vs H Q _=>∃ (x:V) (e:DE),vs=[x]/\RepE K H x e/\Q (.bl (Ae3 e)) H
def Fi:Sp:=fun vs H Q _=>∃ (x:V) (e:DE) (b:Int),vs=[x,.int b]/\RepE K H x e/\Q (.bl (B7 e b)) H
def Qg:Sp:=fun vs H Q _=>∃ (x:V) (e:DE),vs=[x]/\RepE K H x e/\∀ (b:Bool) (H':Hp),Same H H'->(b=true↔O9 e)->Q (.bl b) H'
def Qh (CN:Addr):Sp:=fun vs H Q E=>∃ (x:V) (e:DE) (b:Int),vs=[x,.int b]/\RepE K H x e/\0<=b/\b<=100/\(B7 e b=true->Q .non H)/\(¬B7 e b=true->∀ H',Same H H'->E (.ref CN) none H')
def spX_init (CN:Addr):Sp:=fun vs H Q E=>∃ (g dx:Addr) (v:V) (e:DE),vs=[.ref g,v]/\H g=some (.ins CG dx [])/\RepE K H v e/\(¬O9 e->∀ H',Same H H'->E (.ref CN) none H') ∧
 ∀ p,e=.d (.int p)->Hj p->p<98->∀ (pc sh ed en:Addr) (H':Hp),H pc=none->H sh=none->H ed=none->H en=none->SameX g H H'->Db K CG H' g pc sh ed en p [] [] [] []->Q .non H'
abbrev sp_Growth__init_Ok:Sp:=A74 K CG
def Ql (CS:Addr):Sp:=fun vs H Q E=>∃ (g pc sh ed en:Addr) (v:V) (e:DE) (p:Int) (xs:List (List Int)) (es ss:List Ms) (bs:Ms),vs=[.ref g,v]/\Db K CG H g pc sh ed en p xs es ss bs/\RepE K H v e ∧
 (¬B7 e (xs.length:Int)=true->∀ H',Same H H'->E (.ref CS) none H')/\(∀ (i:Nat) s,e=.d (.int (i:Int))->ss[i]?=some s->newC H s Q)
def Qi:Sp:=fun vs H Q _=>∃ (t:Addr) (bs:Ms) (j:Nat) (st:Int),vs=[.ref t,.int st]/\SqT K H t [.int (j:Int),endV bs (j:Int)]/\Q (.bl (aliveB bs st j)) H
def Jn (CL CS:Addr):Sp:=fun vs H Q E=>∃ (g pc sh ed en:Addr) (vk vst:V) (ek est:DE) (p:Int) (xs:List (List Int)) (es ss:List Ms) (bs:Ms),vs=[.ref g,vk,vst]/\Db K CG H g pc sh ed en p xs es ss bs/\RepE K H vk ek/\RepE K H vst est ∧
 (¬B7 ek 4=true->∀ H',Same H H'->E (.ref CL) none H')/\(B7 ek 4=true->¬est=.d .non->¬B7 est ((xs.length:Int)+1)=true->∀ H',Same H H'->E (.ref CS) none H') ∧
 (∀ k st:Int,ek=.d (.int k)->0<=k->k<4->((est=.d .non/\st=(xs.length:Int))\/(est=.d (.int st)/\0<=st/\st<=(xs.length:Int)))->∀ H',Same H H'->Q (.int (F7 xs es bs k st:Nat)) H')
def Jh:Sp:=fun vs H Q _=>∃ c m:Int,vs=[.int c,.int m]/\0<=m/\∀ (v:V) (e:DE) (H':Hp),Same H H'->RepE K H' v e->Q v H'
def Mn:Sp:=fun vs H Q _=>∃ (v:V) (e:DE) (lo hi:Int),vs=[v,.int lo,.int hi]/\RepE K H v e/\Q (.bl (Yb e lo hi)) H
def Mm (_K:W.Frag):Sp:=fun vs H Q _=>∃ (n:Int),vs=[.int n]/\∀ (M:Addr) (H':Hp),Same H H'->H' M=some (.lst ((Nx n).map V.bl))->Q (.ref M) H'
def Wy:Sp:=fun vs H Q _=>∃ (a b:Addr) (vk vst:V) (ek est:DE) (p:Int) (xs:List (List Int)) (es ss:List Ms) (bs:Ms),vs=[.ref a,.ref b,vk,vst]/\LT K H (.ref a) xs/\Rep K H (.ref b) (.lst (Oz es bs))/\Ox p xs es ss bs/\RepE K H vk ek/\RepE K H vst est ∧
 ∀ (v:V) (H':Hp),Same H H'->Rep K H' v (dueA xs es bs ek est)->Q v H'
def Hn:Sp:=fun vs H Q _=>∃ (g pc sh ed en a b:Addr) (c p:Int) (xs:List (List Int)) (es ss:List Ms) (bs:Ms),vs=[.ref g,.ref a,.ref b,.int c]/\Db K CG H g pc sh ed en p xs es ss bs/\LT K H (.ref a) xs/\Rep K H (.ref b) (.lst (Oz es bs))/\∀ H',Same H H'->Q (.bl true) H'
def Hm:Sp:=fun vs H Q _=>∃ (g pc sh ed en a:Addr) (c p:Int) (xs:List (List Int)) (es ss:List Ms) (bs:Ms),vs=[.ref g,.ref a,.int c]/\Db K CG H g pc sh ed en p xs es ss bs/\Hi p xs es ss/\LT K H (.ref a) xs/\∀ H',Same H H'->Q (.bl true) H'
def Wz (_K:W.Frag) (_CG:Addr):Sp:=fun vs H Q _=>∃ c:Int,vs=[.int c]/\∀ H',Same H H'->Q (.bl true) H'
end
theorem init_down {K:W.Frag}{CG CN:Addr}:∀ vs H Q E,sp_Growth__init_Ok K CG vs H Q E->spX_init K CG CN vs H Q (fun _ _ _=>False):=by
 rintro vs H Q E ⟨g,dx,p,rfl,hg,hP,h98,k⟩
 refine⟨g,dx,.int p,.d (.int p),rfl,hg,rfl,fun z=>absurd ⟨p,rfl,hP,h98⟩ z,fun p' e _ _=>?_⟩
 have:p=p':=by cases e;rfl
 subst this
 exact k
end Hb
namespace Hb
open PySem L2
def top (i:Nat):Stmt:=PySem.Challenge.pw_holebook_k57_stages_asked.main.body.getD i (.Pass ⟨0,0,0,0⟩)
structure Txt (K:W.Frag) (mg:Str->Option Value) (Al Ap Au Aw Af As Ao At A3 Ax Ag Ad Av A2 Ar Aq Ac:Addr):Prop where
 m_HoleError:mg "HoleError"=some (.ref Al)
 k_HoleError:PySem.W.ktsIn K Al "BaseException"=true
 m_NoShape:mg "NoShape"=some (.ref Ap)
 m_NoText:mg "NoText"=some (.ref Au)
 m_NoName:mg "NoName"=some (.ref Aw)
 m_NoLevel:mg "NoLevel"=some (.ref Af)
 e_NoLevel:PySem.W.excIn K Af bmV "ValueError.__new__"=true
 x_NoLevel:ExcC K Af
 iv_NoLevel:PySem.W.kitOne K (.ref Af) (.type "ValueError")=some true
 m_NoChain:mg "NoChain"=some (.ref As)
 m_NoTable:mg "NoTable"=some (.ref Ao)
 m_NoTurn:mg "NoTurn"=some (.ref At)
 m_NoMap:mg "NoMap"=some (.ref A3)
 m_NoGlue:mg "NoGlue"=some (.ref Ax)
 m_NoPrime:mg "NoPrime"=some (.ref Ag)
 e_NoPrime:PySem.W.excIn K Ag bmV "ValueError.__new__"=true
 x_NoPrime:ExcC K Ag
 iv_NoPrime:PySem.W.kitOne K (.ref Ag) (.type "ValueError")=some true
 m_NoStage:mg "NoStage"=some (.ref Ad)
 e_NoStage:PySem.W.excIn K Ad bmV "ValueError.__new__"=true
 x_NoStage:ExcC K Ad
 iv_NoStage:PySem.W.kitOne K (.ref Ad) (.type "ValueError")=some true
 m_NoPair:mg "NoPair"=some (.ref Av)
 m_NoRow:mg "NoRow"=some (.ref A2)
 m_NoPiece:mg "NoPiece"=some (.ref Ar)
 m_NoRound:mg "NoRound"=some (.ref Aq)
 s_NoLevel_HoleError:PySem.W.subIn K (.ref Af) (.ref Al)=some true
 i_NoLevel_NoShape:PySem.W.kitOne K (.ref Af) (.ref Ap)=some false
 i_NoLevel_NoText:PySem.W.kitOne K (.ref Af) (.ref Au)=some false
 i_NoLevel_NoName:PySem.W.kitOne K (.ref Af) (.ref Aw)=some false
 i_NoLevel_NoLevel:PySem.W.kitOne K (.ref Af) (.ref Af)=some true
 i_NoLevel_NoChain:PySem.W.kitOne K (.ref Af) (.ref As)=some false
 i_NoLevel_NoTable:PySem.W.kitOne K (.ref Af) (.ref Ao)=some false
 i_NoLevel_NoTurn:PySem.W.kitOne K (.ref Af) (.ref At)=some false
 i_NoLevel_NoMap:PySem.W.kitOne K (.ref Af) (.ref A3)=some false
 i_NoLevel_NoGlue:PySem.W.kitOne K (.ref Af) (.ref Ax)=some false
 i_NoLevel_NoPrime:PySem.W.kitOne K (.ref Af) (.ref Ag)=some false
 i_NoLevel_NoStage:PySem.W.kitOne K (.ref Af) (.ref Ad)=some false
 i_NoLevel_NoPair:PySem.W.kitOne K (.ref Af) (.ref Av)=some false
 i_NoLevel_NoRow:PySem.W.kitOne K (.ref Af) (.ref A2)=some false
 i_NoLevel_NoPiece:PySem.W.kitOne K (.ref Af) (.ref Ar)=some false
 i_NoLevel_NoRound:PySem.W.kitOne K (.ref Af) (.ref Aq)=some false
 s_NoPrime_HoleError:PySem.W.subIn K (.ref Ag) (.ref Al)=some true
 i_NoPrime_NoShape:PySem.W.kitOne K (.ref Ag) (.ref Ap)=some false
 i_NoPrime_NoText:PySem.W.kitOne K (.ref Ag) (.ref Au)=some false
 i_NoPrime_NoName:PySem.W.kitOne K (.ref Ag) (.ref Aw)=some false
 i_NoPrime_NoLevel:PySem.W.kitOne K (.ref Ag) (.ref Af)=some false
 i_NoPrime_NoChain:PySem.W.kitOne K (.ref Ag) (.ref As)=some false
 i_NoPrime_NoTable:PySem.W.kitOne K (.ref Ag) (.ref Ao)=some false
 i_NoPrime_NoTurn:PySem.W.kitOne K (.ref Ag) (.ref At)=some false
 i_NoPrime_NoMap:PySem.W.kitOne K (.ref Ag) (.ref A3)=some false
 i_NoPrime_NoGlue:PySem.W.kitOne K (.ref Ag) (.ref Ax)=some false
 i_NoPrime_NoPrime:PySem.W.kitOne K (.ref Ag) (.ref Ag)=some true
 i_NoPrime_NoStage:PySem.W.kitOne K (.ref Ag) (.ref Ad)=some false
 i_NoPrime_NoPair:PySem.W.kitOne K (.ref Ag) (.ref Av)=some false
 i_NoPrime_NoRow:PySem.W.kitOne K (.ref Ag) (.ref A2)=some false
 i_NoPrime_NoPiece:PySem.W.kitOne K (.ref Ag) (.ref Ar)=some false
 i_NoPrime_NoRound:PySem.W.kitOne K (.ref Ag) (.ref Aq)=some false
 s_NoStage_HoleError:PySem.W.subIn K (.ref Ad) (.ref Al)=some true
 i_NoStage_NoShape:PySem.W.kitOne K (.ref Ad) (.ref Ap)=some false
 i_NoStage_NoText:PySem.W.kitOne K (.ref Ad) (.ref Au)=some false
 i_NoStage_NoName:PySem.W.kitOne K (.ref Ad) (.ref Aw)=some false
 i_NoStage_NoLevel:PySem.W.kitOne K (.ref Ad) (.ref Af)=some false
 i_NoStage_NoChain:PySem.W.kitOne K (.ref Ad) (.ref As)=some false
 i_NoStage_NoTable:PySem.W.kitOne K (.ref Ad) (.ref Ao)=some false
 i_NoStage_NoTurn:PySem.W.kitOne K (.ref Ad) (.ref At)=some false
 i_NoStage_NoMap:PySem.W.kitOne K (.ref Ad) (.ref A3)=some false
 i_NoStage_NoGlue:PySem.W.kitOne K (.ref Ad) (.ref Ax)=some false
 i_NoStage_NoPrime:PySem.W.kitOne K (.ref Ad) (.ref Ag)=some false
 i_NoStage_NoStage:PySem.W.kitOne K (.ref Ad) (.ref Ad)=some true
 i_NoStage_NoPair:PySem.W.kitOne K (.ref Ad) (.ref Av)=some false
 i_NoStage_NoRow:PySem.W.kitOne K (.ref Ad) (.ref A2)=some false
 i_NoStage_NoPiece:PySem.W.kitOne K (.ref Ad) (.ref Ar)=some false
 i_NoStage_NoRound:PySem.W.kitOne K (.ref Ad) (.ref Aq)=some false
 m_Growth:mg "Growth"=some (.ref Ac)
 cl_Growth:Cls K Ac
 na_Growth_prime:NoAttr K Ac "prime"
 na_Growth_pieces:NoAttr K Ac "pieces"
 na_Growth_sheets:NoAttr K Ac "sheets"
 na_Growth_edges:NoAttr K Ac "edges"
 na_Growth_enders:NoAttr K Ac "enders"
 x_FACE_COUNTS:∃ a,mg "FACE_COUNTS"=some (.ref a)/\∀ H,SqT K H a (([0,2,3,4]:List Int).map V.int)
 x_MOST_PIECES:∃ t,mg "MOST_PIECES"=some (.int 40 t)
 x_PRIME_BOUND:∃ t,mg "PRIME_BOUND"=some (.int 98 t)
 x_LEVELS:∃ t,mg "LEVELS"=some (.int 4 t)
 n_isinstance:mg "isinstance"=none
 n_int:mg "int"=none
 n_bool:mg "bool"=none
 n_tuple:mg "tuple"=none
 n_zip:mg "zip"=none
 n_max:mg "max"=none
 n_len:mg "len"=none
 n_all:mg "all"=none
 n_range:mg "range"=none
 n_dict:mg "dict"=none
 n_enumerate:mg "enumerate"=none
 n_list:mg "list"=none
 n_ValueError:mg "ValueError"=none
def cutS (ns:List Int) (lo hi:Option Int):List Int:=(ns.drop (HT.sIx ns.length 0 lo)).take (HT.sIx ns.length ns.length hi-HT.sIx ns.length 0 lo)
theorem Ag4 (ns:List Int) (lo hi:Option Int):cutV (ns.map V.int) lo hi=(cutS ns lo hi).map V.int:=by
 unfold cutV cutS
 rw [List.length_map,List.map_take,List.map_drop]
theorem Ag5 (ns:List Int) (lo hi:Option Int):(cutS ns lo hi).length<=ns.length:=by
 unfold cutS
 rw [List.length_take,List.length_drop]
 omega
theorem Za:Fx []:=fun k q h=>by simp at h
theorem Bw4:(["number"]:List Str).Nodup:=by decide +kernel
theorem Bs7:(["old","new","quotient"]:List Str).Nodup:=by decide +kernel
theorem Bw3:(["face","shape","level"]:List Str).Nodup:=by decide +kernel
theorem Br5:(["place","old","number"]:List Str).Nodup:=by decide +kernel
theorem Bw2:(["number","thing"]:List Str).Nodup:=by decide +kernel
theorem Br4:(["place","number","prime"]:List Str).Nodup:=by decide +kernel
theorem Br3:(["birth","edge","self"]:List Str).Nodup:=by decide +kernel
theorem Bw1:(["pair","now"]:List Str).Nodup:=by decide +kernel
theorem Bw0:(["pair","self","k"]:List Str).Nodup:=by decide +kernel
theorem Bv9:(["_law_place","_law_pieces"]:List Str).Nodup:=by decide +kernel
theorem Bs6:(["_law_face","_law_pieces","_law_j"]:List Str).Nodup:=by decide +kernel
theorem Bs5:(["_law_face","_law_pieces","_law_faces"]:List Str).Nodup:=by decide +kernel
theorem Bs4:(["_law_face","_law_pieces","_law_level_here"]:List Str).Nodup:=by decide +kernel
theorem Bs3:(["_law_letter"]:List Str).Nodup:=by decide +kernel
theorem Bs2:(["_law_i","_law_word"]:List Str).Nodup:=by decide +kernel
theorem Bs1:(["_law_word","_law_family","_law_words"]:List Str).Nodup:=by decide +kernel
theorem Bs0:(["_law_face","_law_words"]:List Str).Nodup:=by decide +kernel
theorem Br9:(["_law_n"]:List Str).Nodup:=by decide +kernel
theorem Br8:(["_law_k","_law_n"]:List Str).Nodup:=by decide +kernel
theorem Br7:(["_law_k","_law_at"]:List Str).Nodup:=by decide +kernel
theorem Br6:(["_law_k","_law_thing"]:List Str).Nodup:=by decide +kernel
section
variable {P:Program}{w:World}{K:W.Frag}{mg:Str->Option Value}{base:Heap}{Al Ap Au Aw Af As Ao At A3 Ax Ag Ad Av A2 Ar Aq Ac:Addr}
abbrev Fe:Stmt:=top 2
theorem u4:FnScope ["thing"] ["thing"] (Aj Fe):=⟨rfl,rfl,rfl,by decide +kernel,rfl,by decide +kernel,by decide +kernel⟩
theorem w9 {f:Addr}{fd:FuncData} (F:Fun K "is_whole" "is_whole" Fe f fd) (T:Txt K mg Al Ap Au Aw Af As Ao At A3 Ax Ag Ad Av A2 Ar Aq Ac) :FnOk P w K mg base CX0 1 f fd ["thing"] (Et K):=by
 refine F.ok u4 (fun vs H Q E h=>?_) (fun Bw A outer s H vs Q E hr h=>?_)
 . obtain⟨x,e,rfl,hx,k⟩:=h
   rfl
 . obtain⟨x,e,rfl,hx,k⟩:=h
   refine⟨_,(Am (Bb (F4 (A0 (Hf (K:=K)) (by rfl) T.n_isinstance A4 (Aa (pv 0) (Aa (Jr (v:=.ty "int") rfl T.n_int boot_intT rfl) Ah))) (F3 (Bd3 (A0 (Hf (K:=K)) (by rfl) T.n_isinstance A4 (Aa (pv 0) (Aa (Jr (v:=.ty "bool") rfl T.n_bool We rfl) Ah)))))))),?_⟩
   have e0:Ae3 e=(isT "int" (.one e)&&!isT "bool" (.one e)):=by cases e<;>rfl
   refine⟨_,rfl,x,"int",.one e,rfl,.inl rfl,hx,_,rfl,?_⟩
   refine ite2 (fun h=>?_) (fun h=>?_)
   . refine⟨_,rfl,x,"bool",.one e,rfl,.inr (.inl rfl),hx,_,rfl,?_⟩
     rw [e0,h] at k
     exact k
   . rw [e0,Bool.eq_false_iff.mpr h] at k
     exact k
abbrev B9:Stmt:=top 4
theorem Nm:FnScope ["one","other","last","now","quotient","rest"] ["one","other"] (Aj B9):=⟨rfl,rfl,rfl,by decide +kernel,rfl,by decide +kernel,by decide +kernel⟩
theorem B4:(["one","other","last","now","quotient","rest"]:List Str).Nodup:=by decide +kernel
theorem Ny {f:Addr}{fd:FuncData} (F:Fun K "shared_divisor" "shared_divisor" B9 f fd) (T:Txt K mg Al Ap Au Aw Af As Ao At A3 Ax Ag Ad Av A2 Ar Aq Ac) :FnOk P w K mg base CX0 1 f fd ["one","other"] (n0 K):=by
 refine F.ok Nm (fun vs H Q E h=>?_) (fun Bw A outer s H vs Q E hr h=>?_)
 . obtain⟨n,p,rfl,hp,hp98,hn,k⟩:=h
   rfl
 . obtain⟨n,p,rfl,hp,hp98,hn,k⟩:=h
   refine⟨_,(Ai (A5 (i:=2) B4 (by rfl) (by first | exact Or.inl rfl | exact Or.inr rfl) (Cj (Aa (pv 0) (Aa Ak (Aa Ak Ah)))))
    (Ai (A5 (i:=3) B4 (by rfl) (by first | exact Or.inl rfl | exact Or.inr rfl) (Cj (Aa (pv 1) (Aa Ak (Aa Ak Ah)))))
    (Ai (Ae7 PassesOwn.never (A7 v7 (Bx (Bm (K:=K)) (pv 3) Ak (fun _ _=>rfl)) Ak (A9 _)) (Ai (A5 (i:=4) B4 (by rfl) (by first | exact Or.inl rfl | exact Or.inr rfl) (Bf C8 (Bx (Bm (K:=K)) (pv 2) Ak (fun _ _=>rfl)) (Bx (Bm (K:=K)) (pv 3) Ak (fun _ _=>rfl))))
    (Ai (A5 (i:=5) B4 (by rfl) (by first | exact Or.inl rfl | exact Or.inr rfl) (Dm (Ek (K:=K)) (by rfl) T.n_tuple Eg (Aa (Dj (N':=["old","new","quotient"]) (cap:=[none,none,some 4]) (by rfl) (by kernel_rfl) (Bh3 (K:=K) (by rfl) T.n_zip (Aa (pv 2) (Aa (pv 3) Ah))) (fun _ _ _ _=>(L8 (K:=K) (n:=2) (by rfl) (C4 (Bg (i:=0) Bs7 (by rfl) (by first | exact Or.inl rfl | exact Or.inr rfl)) (C4 (Bg (i:=1) Bs7 (by rfl) (by first | exact Or.inl rfl | exact Or.inr rfl)) L4)))) (fun _ _ _ _=>Fl) (fun _ _ _ _=>(Bf Lb (pv 0) (Bf op_mulX (pv 2) (pv 1))))) Ah)))
    (Ai (A5 (i:=2) B4 (by rfl) (by first | exact Or.inl rfl | exact Or.inr rfl) (pv 3))
    (Am (A5 (i:=3) B4 (by rfl) (by first | exact Or.inl rfl | exact Or.inr rfl) (pv 5)))))))
    (Ai (Bu (A7 Nw (Bx (Bm (K:=K)) (pv 2) Ak (fun _ _=>rfl)) Ak (A9 _)) (Am (Bb (Dm (Ek (K:=K)) (by rfl) T.n_tuple Eg (Aa (Dj (N':=["number"]) (cap:=[none]) (by rfl) (by kernel_rfl) (R6 (K:=K) (pv 2)) (fun _ _ _ _=>(Bg (i:=0) Bw4 (by rfl) (by first | exact Or.inl rfl | exact Or.inr rfl))) (fun _ _ _ _=>Fl) (fun _ _ _ _=>(Av6 Y3 (pv 0)))) Ah)))) Be)
    (Am (Bb (pv 2))))))),?_⟩
   have hp2:=hp.two
   refine⟨_,rfl,Bh (by simp),fun L0 hL0=>?_⟩
   have s0:Same H (upd H L0 (.tup [.int n,.int 1,.int 0])):=Same.new hL0
   refine⟨_,rfl,Bh (by simp),fun N0 hN0=>?_⟩
   have s1:Same (upd H L0 (.tup [.int n,.int 1,.int 0])) (upd (upd H L0 (.tup [.int n,.int 1,.int 0])) N0 (.tup [.int p,.int 0,.int 1])):=Same.new hN0
   refine A6 (fun σ' H'=>σ'=[some (.int n),some (.int p),some (.ref L0),some (.ref N0),none,none]/\H'=upd (upd H L0 (.tup [.int n,.int 1,.int 0])) N0 (.tup [.int p,.int 0,.int 1])) ?_ fun key0=>key0 _ _ ⟨rfl,rfl⟩
   rintro _ _ ⟨rfl,rfl⟩
   refine A6 (fun σ' H'=>∃ (L N:Addr) (x y:Int) (o4 o5:Option V),σ'=[some (.int n),some (.int p),some (.ref L),some (.ref N),o4,o5]/\Same H H'/\SqT K H' L [.int 1,.int x,.int y]/\p∣1-x*n) ?_ fun key=>?_
   rotate_left
   . refine⟨fun m σ G=>∃ (L N:Addr) (a x y b u v:Int) (o4 o5:Option V),σ=[some (.int n),some (.int p),some (.ref L),some (.ref N),o4,o5]/\Same H G/\SqT K G L [.int a,.int x,.int y]/\SqT K G N [.int b,.int u,.int v]/\Eu n p a x b u/\((b=p/\u=0/\v=1)\/(0<=b/\b<a/\a<=p))/\m=b.toNat,⟨_,L0,N0,n,1,0,p,0,1,none,none,rfl,s0.trans s1,.of (s1 _ _ Ae),.of Ae,Eu.start n p,.inl ⟨rfl,rfl,rfl⟩,rfl⟩,?_⟩
     rintro m σ G ⟨L,N,a,x,y,b,u,v,o4,o5,rfl,s2,hL,hN,hE,hst,rfl⟩
     refine⟨_,rfl,N,_,_,_,rfl,rfl,hN,rfl,rfl,_,rfl,?_⟩
     refine ite2 (fun h1=>?_) (fun h1=>?_)
     . have hb0:¬b=0:=by simpa using h1
       have hbp:0<b/\b<=p:=by omega
       have hq:IntMulOk (a / b) u/\IntMulOk (a / b) v:=by
        rcases hst with ⟨_,e1,e2⟩|⟨e0,e1,e2⟩
        . subst e1 e2
          exact ⟨Ay4 (by decide) (by decide),Ay4 (by decide) (by decide)⟩
        . have q0:0<=a / b:=Int.ediv_nonneg (by omega) (by omega)
          have q1:a / b<=a:=Int.ediv_le_self _ (by omega)
          exact ⟨O1 (by omega) (by omega),O1 (by omega) (by omega)⟩
       have hr:a-a / b*b=a%b:=by rw [Int.emod_def,Int.mul_comm]
       have hr0:0<=a%b:=Int.emod_nonneg _ (by omega)
       have hr1:a%b<b:=Int.emod_lt_of_pos _ (by omega)
       refine⟨fun σ' G'=>∃ (L N:Addr) (a' x y b' u v:Int) (o4 o5:Option V),σ'=[some (.int n),some (.int p),some (.ref L),some (.ref N),o4,o5]/\Same H G'/\SqT K G' L [.int a',.int x,.int y]/\SqT K G' N [.int b',.int u,.int v]/\Eu n p a' x b' u/\(0<=b'/\b'<a'/\a'<=p)/\b'<b,?_,?_⟩
       . rintro σ' G' ⟨L',N',a',x',y',b',u',v',o4',o5',rfl,q1,q2,q3,q4,q5,q6⟩
         exact ⟨b'.toNat,by omega,L',N',a',x',y',b',u',v',o4',o5',rfl,q1,q2,q3,q4,.inr q5,rfl⟩
       refine⟨_,rfl,L,_,_,_,rfl,rfl,hL,rfl,_,rfl,N,_,_,_,rfl,rfl,hN,rfl,_,_,rfl,rfl,⟨by omega,by omega⟩,?_⟩
       refine⟨_,rfl,_,rfl,L,N,rfl,⟨_,hL⟩,⟨_,hN⟩,fun D hD=>?_⟩
       have gv:∀ (i:Nat) (e f:V),([.int a,.int x,.int y]:List V)[i]?=some e->([.int b,.int u,.int v]:List V)[i]?=some f->∃ e' f':Int,e=.int e'/\f=.int f'/\IntMulOk (a / b) f'/\i<3 ∧
        ([.int (a-a / b*b),.int (x-a / b*u),.int (y-a / b*v)]:List V)[i]?=some (.int (e'-a / b*f')):=by
        intro i e f he hf
        match i,he,hf with
        | 0,he,hf=>cases he;cases hf;exact ⟨a,b,rfl,rfl,Ay4 (by omega) (by omega),by decide,rfl⟩
        | 1,he,hf=>cases he;cases hf;exact ⟨x,u,rfl,rfl,hq.1,by decide,rfl⟩
        | 2,he,hf=>cases he;cases hf;exact ⟨y,v,rfl,rfl,hq.2,by decide,rfl⟩
        | i+3,he,hf=>simp at he
       refine Aq4 (K:=K) (a:=L) (b:=N) (xs:=[.int a,.int x,.int y]) (ys:=[.int b,.int u,.int v]) (n:=3) ⟨rfl,rfl⟩ (fun i zs τ G1=>Same G G1/\G1 D=some (.lst zs)/\zs=([.int (a-a / b*b),.int (x-a / b*u),.int (y-a / b*v)]:List V).take i/\∃ o1 o2,τ=[o1,o2,some (.int (a / b))])
        ⟨Same.new hD,Ae,rfl,none,none,rfl⟩ (fun i zs τ G1 _ ⟨s3,_⟩=>⟨s3.seqT hL,s3.seqT hN⟩) ?_ ?_
       . rintro i e f zs τ G1 pr he hf ⟨s3,hD3,hzs,o1,o2,rfl⟩ hpr
         obtain⟨e',f',rfl,rfl,hok,hi3,hnext⟩:=gv i e f he hf
         have sp:Same G1 (upd G1 pr (.tup [.int e',.int f'])):=Same.new hpr
         refine⟨pr,_,rfl,.of Ae,rfl,_,_,rfl,_,_,rfl,rfl,?_⟩
         refine⟨_,rfl,_,rfl,_,rfl,_,_,rfl,rfl,hok,_,_,rfl,rfl,?_⟩
         refine⟨sp _ _ hD3,Du (by rw [hzs,List.length_take];omega),(s3.trans sp).turn hD,Ae,?_,_,_,rfl⟩
         rw [List.take_succ,hnext,hzs]
         rfl
       . rintro zs τ G1 ⟨s3,hD3,hzs,_⟩
         refine⟨D,_,rfl,.inl ⟨.of hD3,fun T1 hT1=>?_⟩⟩
         have s4:Same G1 (upd G1 T1 (.tup zs)):=Same.new hT1
         have hzs':zs=[.int (a-a / b*b),.int (x-a / b*u),.int (y-a / b*v)]:=hzs
         have hT2:SqT K (upd G1 T1 (.tup zs)) T1 [.int (a-a / b*b),.int (x-a / b*u),.int (y-a / b*v)]:=by rw [←hzs'];exact .of Ae
         refine⟨_,rfl,_,rfl,N,T1,b,u,v,a-a / b*b,x-a / b*u,y-a / b*v,_,_,rfl,(s2.trans s3).trans s4,(s3.trans s4).seqT hN,hT2,hE.step (a / b),?_,?_⟩
         . rw [hr];exact ⟨hr0,hr1,hbp.2⟩
         . rw [hr];exact hr1
     . have hb0:b=0:=by simpa using h1
       subst hb0
       have ha:0<a:=by omega
       have e1:=hE.last hp hn ha
       subst e1
       exact key _ _ ⟨L,N,x,y,o4,o5,rfl,s2,hL,hE.ha⟩
   rintro _ G ⟨L,N,x,y,o4,o5,rfl,s2,hL,hd⟩
   refine⟨_,rfl,L,_,_,_,rfl,rfl,hL,rfl,_,_,rfl,rfl,_,rfl,?_⟩
   refine ifN (by simp) ?_
   exact ⟨_,rfl,k L x y G s2 hL hd⟩
abbrev Fd:Stmt:=top 7
theorem r9:FnScope ["piece"] ["piece"] (Aj Fd):=⟨rfl,rfl,rfl,by decide +kernel,rfl,by decide +kernel,by decide +kernel⟩
theorem v9 {f:Addr}{fd:FuncData} (F:Fun K "level_of" "level_of" Fd f fd) (T:Txt K mg Al Ap Au Aw Af As Ao At A3 Ax Ag Ad Av A2 Ar Aq Ac) :FnOk P w K mg base CX0 1 f fd ["piece"] (Cc K):=by
 refine F.ok r9 (fun vs H Q E h=>?_) (fun Bw A outer s H vs Q E hr h=>?_)
 . obtain⟨x,ds,rfl,hx,k⟩:=h
   rfl
 . obtain⟨x,ds,rfl,hx,k⟩:=h
   refine⟨_,(Am (Bb (A0 (i4 (by rfl)) (by rfl) T.n_max Kk (Aa (Bf Lb (A0 (Ay (K:=K)) (by rfl) T.n_len PySem.boot_len (Aa (pv 0) Ah)) Ak) (Aa Ak Ah))))),?_⟩
   obtain⟨p,us,e,hq,hl⟩:∃ (p:Addr) (us:List V),x=.ref p/\(SqL K H p us\/SqT K H p us)/\us.length=ds.length:=by
    rcases hx with ⟨p,us,e,hq,r⟩|⟨p,us,e,hq,r⟩
    . exact ⟨p,us,e,.inl hq,r.length⟩
    . exact ⟨p,us,e,.inr hq,r.length⟩
   subst e
   refine⟨_,rfl,p,us,rfl,hq,_,_,rfl,rfl,_,_,rfl,?_⟩
   rw [hl]
   exact k
abbrev Dd:Stmt:=top 10
theorem T7:FnScope ["shape","faces","j","i"] ["shape","faces"] (Aj Dd):=⟨rfl,rfl,rfl,by decide +kernel,rfl,by decide +kernel,by decide +kernel⟩
theorem Ld:(["shape","faces","j","i"]:List Str).Nodup:=by decide +kernel
theorem Ui {f:Addr}{fd:FuncData} (F:Fun K "faces_agree" "faces_agree" Dd f fd) (T:Txt K mg Al Ap Au Aw Af As Ao At A3 Ax Ag Ad Av A2 Ar Aq Ac) :FnOk P w K mg base CX0 1 f fd ["shape","faces"] (F8 K):=by
 refine F.ok T7 (fun vs H Q E h=>?_) (fun Bw A outer s H vs Q E hr h=>?_)
 . obtain⟨a,v,xs,p,rfl,hL,hv,hp4,hf,k⟩:=h
   rfl
 . obtain⟨a,v,xs,p,rfl,hL,hv,hp4,hf,k⟩:=h
   refine⟨_,(Ai (D1 PassesOwn.never rfl (Cu (by rfl) T.n_range (Aa (A0 (Ay (K:=K)) (by rfl) T.n_len PySem.boot_len (Aa (pv 1) Ah)) Ah)) (Bg (i:=2) Ld (by rfl) (by first | exact Or.inl rfl | exact Or.inr rfl)) (Am (D1 PassesOwn.never rfl (Cu (by rfl) T.n_range (Aa (pv 2) Ah)) (Bg (i:=3) Ld (by rfl) (by first | exact Or.inl rfl | exact Or.inr rfl)) (Am (Bu (A7 v7 (Bx (Bm (K:=K)) (Bx (Bt (K:=K)) (pv 0) (Bx (Bm (K:=K)) (pv 1) (pv 2) (fun _ _=>rfl)) (fun _ _=>rfl)) (pv 3) (fun _ _=>rfl)) (Bx (Bm (K:=K)) (Bx (Bt (K:=K)) (pv 0) (Bx (Bm (K:=K)) (pv 1) (pv 3) (fun _ _=>rfl)) (fun _ _=>rfl)) (Bf Lb (pv 2) Ak) (fun _ _=>rfl)) (A9 _)) (Am (Bb Js)) Be)))))
    (Am (Bb Js))),?_⟩
   obtain⟨pa,rfl,hq⟩:=hv.sq
   have hpl:(p.map V.int).length=p.length:=List.length_map ..
   refine⟨_,rfl,pa,_,rfl,.inr hq,_,rfl,by omega,by omega,?_⟩
   rw [hpl]
   refine C9 (lo:=0) (n:=((p.length:Nat):Int).toNat) (fun j σ H2=>H=H2/\(∃ o2 o3,σ=[some (.ref a),some (.ref pa),o2,o3])/\∀ j' i',j'<j->i'<j'->Mh xs p j' i'=true)
    ⟨rfl,⟨none,none,rfl⟩,fun j' i' h=>absurd h (by omega)⟩ ?_ ?_
   . rintro j σ H2 hj ⟨rfl,⟨o2,o3,rfl⟩,hall⟩
     have hj':j<p.length:=by omega
     refine⟨_,rfl,_,rfl,by omega,by omega,?_⟩
     refine C9 (lo:=0) (n:=((0:Int)+(j:Int)).toNat) (fun i σ H2=>H=H2/\(∃ o3,σ=[some (.ref a),some (.ref pa),some (.int (0+j)),o3])/\∀ i',i'<i->Mh xs p j i'=true)
      ⟨rfl,⟨_,rfl⟩,fun i' h=>absurd h (by omega)⟩ ?_ ?_
     . rintro i σ H2 hi ⟨rfl,⟨o3,rfl⟩,hall2⟩
       have hij:i<j:=by omega
       have mj:p.getD j 0∈p:=by rw [List.getD_eq_getElem?_getD,List.getElem?_eq_getElem hj'];exact List.getElem_mem _
       have mi:p.getD i 0∈p:=by rw [List.getD_eq_getElem?_getD,List.getElem?_eq_getElem (by omega)];exact List.getElem_mem _
       obtain⟨j0,j1,j2⟩:=hf _ mj
       obtain⟨i0,i1,i2⟩:=hf _ mi
       obtain⟨_,z,hq1,at1⟩:=TI.get (i:=(0:Int)+(j:Int)) hv (by omega) (by omega)
       cases z
       rw [show ((0:Int)+(j:Int)).toNat=j by omega] at at1
       obtain⟨_,z,hq2,at2⟩:=TI.get (i:=(0:Int)+(i:Int)) hv (by omega) (by omega)
       cases z
       rw [show ((0:Int)+(i:Int)).toNat=i by omega] at at2
       obtain⟨us1,v1,hu1,av1,tv1⟩:=LT.get hL j0 j1
       obtain⟨us2,v2,hu2,av2,tv2⟩:=LT.get hL i0 i1
       obtain⟨b1,e1,hb1,ab1⟩:=TI.get (i:=(0:Int)+(i:Int)) tv1 (by omega) (by omega)
       obtain⟨b2,e2,hb2,ab2⟩:=TI.get (i:=(0:Int)+(j:Int)-1) tv2 (by omega) (by omega)
       subst e1 e2
       rw [show ((0:Int)+(i:Int)).toNat=i by omega] at ab1
       rw [show ((0:Int)+(j:Int)-1).toNat=j-1 by omega] at ab2
       refine⟨_,rfl,_,rfl,_,rfl,pa,_,_,_,rfl,rfl,hq1,at1,a,us1,_,_,rfl,rfl,hu1,av1,_,rfl,b1,_,_,_,rfl,rfl,hb1,ab1,?_⟩
       refine⟨_,rfl,_,rfl,_,rfl,pa,_,_,_,rfl,rfl,hq2,at2,a,us2,_,_,rfl,rfl,hu2,av2,_,rfl,_,_,rfl,rfl,b2,_,_,_,rfl,rfl,hb2,ab2,?_⟩
       refine⟨rfl,_,rfl,?_⟩
       by_cases hag:(xs.getD (p.getD j 0).toNat []).getD i 0=(xs.getD (p.getD i 0).toNat []).getD (j-1) 0
       . refine ifN (eqI hag) ?_
         refine⟨rfl,⟨_,rfl⟩,fun i' h=>?_⟩
         by_cases hz:i'=i
         . subst hz;unfold Mh;exact decide_eq_true hag
         . exact hall2 i' (by omega)
       . refine ifP (neI hag) ?_
         have e2:Fw xs p=false:=by
          cases q:Fw xs p with
          | false=>rfl
          | true =>
            unfold Fw at q
            rw [List.all_eq_true] at q
            have q2:=q j (List.mem_range.mpr hj')
            rw [List.all_eq_true] at q2
            have q3:=q2 i (List.mem_range.mpr hij)
            exact absurd (of_decide_eq_true q3) hag
         rw [e2] at k
         exact k
     . rintro σ H2 ⟨rfl,⟨o3,rfl⟩,hall2⟩
       refine⟨rfl,⟨_,_,rfl⟩,fun j' i' h1 h2=>?_⟩
       by_cases hz:j'=j
       . subst hz;exact hall2 i' (by omega)
       . exact hall j' i' (by omega) h2
   . rintro σ H2 ⟨rfl,⟨o2,o3,rfl⟩,hall⟩
     have e2:Fw xs p=true:=by
      unfold Fw
      rw [List.all_eq_true]
      intro j hj
      rw [List.all_eq_true]
      intro i hi
      have:=List.mem_range.mp hj
      exact hall j i (by omega) (List.mem_range.mp hi)
     rw [e2] at k
     exact k
abbrev Ho:Stmt:=top 13
theorem At3:FnScope ["chain","place","number","total"] ["chain","place","number"] (Aj Ho):=⟨rfl,rfl,rfl,by decide +kernel,rfl,by decide +kernel,by decide +kernel⟩
theorem Ay1:(["chain","place","number","total"]:List Str).Nodup:=by decide +kernel
theorem Aw1 {f:Addr}{fd:FuncData} (F:Fun K "add_at" "add_at" Ho f fd) (T:Txt K mg Al Ap Au Aw Af As Ao At A3 Ax Ag Ad Av A2 Ar Aq Ac) :FnOk P w K mg base CX0 1 f fd ["chain","place","number"] (Jk K):=by
 refine F.ok At3 (fun vs H Q E h=>?_) (fun Bw A outer s H vs Q E hr h=>?_)
 . obtain⟨a,ms,k,n,rfl,ha,hl,kq⟩:=h
   rfl
 . obtain⟨a,ms,k,n,rfl,ha,hl,kq⟩:=h
   have hu8:(A.deeper (PyProof.Rows.envOfC "add_at" (Aj Ho) s.heap.objs.size f Bw)).units+8<cLine:=by have:=hr.units;omega
   refine⟨_,(Ai (A5 (i:=3) Ay1 (by rfl) (by first | exact Or.inl rfl | exact Or.inr rfl) (Bf Ew (A91 (u1 hu8) (pv 0) (pv 1) Ak ⟨by rfl,by rfl,by rfl,by rfl⟩) (pv 2)))
    (Am (Bu (A7 Dk (pv 3) Ak (A9 _)) (Am (Di (A90 (pv 0) (pv 1) Ev ⟨by rfl,by rfl,by rfl,by rfl⟩))) (Am (Au7 (u1 hu8) (pv 0) (pv 1) (pv 3) (by rfl)))))),?_⟩
   refine⟨_,rfl,a,rfl,.inl ⟨_,.inl ha⟩,_,rfl,_,Bm0 (.inl ha),_,rfl,getI ms k,n,Bm7 ms k,rfl,?_⟩
   refine⟨_,rfl,rfl,_,rfl,?_⟩
   refine ite2 (fun h1=>?_) (fun h1=>?_)
   . have e:getI ms k+n=0:=by simpa using h1
     unfold addI at kq
     rw [if_pos e] at kq
     refine⟨_,rfl,a,rfl,.inl ⟨_,.inl ha⟩,_,rfl,cK ms,.inl k,ha,rfl,fun v hv=>?_,fun hn=>?_⟩
     . rw [Bm8]
       exact kq
     . rw [Wc] at hn
       have hn':lookI ms k=none:=by simpa using hn
       have e2:Ss ms k=ms:=by
        unfold Ss
        rw [List.filter_eq_self]
        intro p hp
        have:¬p.1=k:=fun z=>by
         have h3:(ms.any fun p=>decide (p.1=k))=true:=List.any_eq_true.mpr ⟨p,hp,by simpa using z⟩
         rw [A59] at h3
         obtain⟨p',hp',e'⟩:=List.mem_map.mp h3
         rw [←e'] at hn'
         have:∀ (ns:Ms),p'∈ns->lookI ns p'.1≠none:=by
          intro ns
          induction ns with
          | nil=>intro z;cases z
          | cons q ns ih =>
            intro hq
            rw [Cb]
            split
            . exact fun z=>by cases z
            . rename_i hne
              rcases List.mem_cons.mp hq with rfl | hq
              . exact absurd rfl hne
              . exact ih hq
         exact this ms hp' hn'
        simpa using this
       rw [e2,Bc7 ha] at kq
       exact kq
   . have e:¬getI ms k+n=0:=by simpa using h1
     unfold addI at kq
     rw [if_neg e] at kq
     exact ⟨_,rfl,_,rfl,_,rfl,a,_,rfl,A25 ha hl,kq⟩
abbrev Np:Stmt:=top 14
theorem A77:FnScope ["number","chain"] ["number","chain"] (Aj Np):=⟨rfl,rfl,rfl,by decide +kernel,rfl,by decide +kernel,by decide +kernel⟩
theorem Ba3 {f:Addr}{fd:FuncData} (F:Fun K "times" "times" Np f fd) (T:Txt K mg Al Ap Au Aw Af As Ao At A3 Ax Ag Ad Av A2 Ar Aq Ac) :FnOk P w K mg base CX0 1 f fd ["number","chain"] (Wu K):=by
 refine F.ok A77 (fun vs H Q E h=>?_) (fun Bw A outer s H vs Q E hr h=>?_)
 . obtain⟨n,a,ms,rfl,ha,hm,hok,k⟩:=h
   rfl
 . obtain⟨n,a,ms,rfl,ha,hm,hok,k⟩:=h
   refine⟨_,(Ai (Bu (A7 Dk (pv 0) Ak (A9 _)) (Am (Bb P5)) Be)
    (Am (Bb (Dm (Wa (by rfl)) (by rfl) T.n_dict Hg (Aa (Bd4 (Dj (N':=["place","old","number"]) (cap:=[none,none,some 0]) (by rfl) (by kernel_rfl) (Xj (pv 1)) (fun _ _ _ _=>(L8 (K:=K) (n:=2) (by rfl) (C4 (Bg (i:=0) Br5 (by rfl) (by first | exact Or.inl rfl | exact Or.inr rfl)) (C4 (Bg (i:=1) Br5 (by rfl) (by first | exact Or.inl rfl | exact Or.inr rfl)) L4)))) (fun _ _ _ _=>Fl) (fun _ _ _ _=>(Cj (Aa (pv 0) (Aa (Bf op_mulX (pv 2) (pv 1)) Ah)))))) Ah))))),?_⟩
   refine⟨_,rfl,rfl,_,rfl,?_⟩
   refine ite2 (fun h1=>?_) (fun h1=>?_)
   . have e:n=0:=by simpa using h1
     intro D hD
     refine k D _ hD (Same.new hD) ?_
     rw [Ae]
     unfold Bq
     rw [if_pos e]
     rfl
   have e:¬n=0:=by simpa using h1
   refine .inr ⟨a,cK ms,ha,fun hnd o=>?_⟩
   refine⟨_,rfl,a,o,cK ms,rfl,Ae,fun D hD=>?_⟩
   obtain⟨hD0,nDa⟩:=Ag0 hD
   refine V0 (d:=a) (o:=o) (kvs:=cK ms) (fun i zs τ H1=>∃ ts:List Addr,zs=ts.map V.ref/\ts.length=i/\(∀ (j:Nat) t,ts[j]?=some t->∃ p:Int × Int,ms[j]?=some p/\H1 t=some (.tup [.int p.1,.int (n*p.2)])/\t≠D)/\H1 a=some (.frz o (.dK (cK ms)))/\H1 D=some (.lst zs)/\(∀ c q,c≠a->H c=some q->H1 c=some q)/\∃ o1 o2,τ=[o1,o2,some (.int n)])
    ⟨[],rfl,rfl,(fun j t z=>by simp at z),?_,Ae,?_,none,none,rfl⟩ (fun i zs τ H1 _ ⟨_,_,_,_,e,_⟩=>e) ?_ ?_
   . rw [An nDa.symm];exact Ae
   . intro c q n1 e2
     rw [An (A8 e2 hD0),An n1]
     exact e2
   . rintro i kk x zs τ H1 p hx ⟨ts,rfl,htl,hts,ha1,hD1,hk1,o1,o2,rfl⟩ hp
     obtain⟨q,hq,rfl,rfl⟩:=A56 hx
     have hlt:i<ms.length:=(List.getElem?_eq_some_iff.mp hq).1
     have sp:Same H1 (upd H1 p (.tup [.int q.1,.int q.2])):=Same.new hp
     refine⟨p,_,rfl,.of Ae,rfl,_,_,rfl,_,_,rfl,rfl,?_⟩
     refine⟨_,rfl,_,rfl,_,rfl,_,_,rfl,rfl,hok q (List.mem_of_getElem? hq),Bh (by simp),fun t ht=>?_⟩
     have st:=sp.trans (Same.new (o:=.tup [.int q.1,.int (n*q.2)]) ht)
     have ntD:t≠D:=(A8 (sp _ _ hD1) ht).symm
     refine⟨st _ _ hD1,Du (by rw [List.length_map];omega),ts++[t],by simp,by simp [htl],fun j t' e2=>?_,?_,Ae,fun c r n1 e2=>?_,_,_,rfl⟩
     . rw [List.getElem?_append] at e2
       split at e2
       . obtain⟨p',h1',h2',h3'⟩:=hts j t' e2
         exact ⟨p',h1',by rw [An h3'];exact st _ _ h2',h3'⟩
       . rename_i hj
         have hj0:j-ts.length=0:=by
          cases hz:j-ts.length with
          | zero=>rfl
          | succ m=>rw [hz] at e2;simp at e2
         rw [hj0] at e2
         have et:t=t':=by simpa using e2
         subst et
         refine⟨q,by rw [show j=i by omega];exact hq,?_,ntD⟩
         rw [An ntD]
         exact Ae
     . rw [An nDa.symm];exact st _ _ ha1
     . have:=hk1 c r n1 e2
       rw [An (fun z=>by rw [z,hD0] at e2;cases e2)]
       exact st _ _ this
   . rintro zs τ H1 ⟨ts,rfl,htl,hts,ha1,hD1,hk1,_⟩
     rw [O7] at htl
     refine⟨ha1,D,ts,cK (ms.map fun p=>(p.1,n*p.2)),rfl,(by rw [An nDa];exact hD1),(by rw [O7,List.length_map];exact htl),fun i t e2=>?_,fun E hE=>?_⟩
     . obtain⟨p,h1',h2',_⟩:=hts i t e2
       refine⟨(.inl p.1,.int (n*p.2)),?_,?_⟩
       . unfold cK
         rw [List.getElem?_map,List.getElem?_map,h1']
         rfl
       . have nta:t≠a:=Hw h2' ha1 (fun z=>by cases z)
         rw [An nta]
         exact h2'
     . have s1:Same H (upd H1 a (.dK (cK ms))):=fun c q e2=>by
        by_cases z:c=a
        . subst z
          rw [ha] at e2
          cases e2
          exact Ae
        . rw [An z];exact hk1 c q z e2
       refine k E _ (s1.free hE) (s1.trans (Same.new hE)) ?_
       rw [Ae]
       have hnd':nd ms:=Xz.mp hnd
       rw [Jx _ [] (by rw [List.nil_append];exact Xz.mpr (Kt hnd' n))]
       unfold Bq
       rw [if_neg e,List.nil_append]
abbrev Dy:Stmt:=top 35
theorem W8:FnScope ["pieces"] ["pieces"] (Aj Dy):=⟨rfl,rfl,rfl,by decide +kernel,rfl,by decide +kernel,by decide +kernel⟩
theorem Xm {f:Addr}{fd:FuncData} (F:Fun K "check_size" "check_size" Dy f fd) (T:Txt K mg Al Ap Au Aw Af As Ao At A3 Ax Ag Ad Av A2 Ar Aq Ac) :FnOk P w K mg base CX0 1 f fd ["pieces"] (Wv K):=by
 refine F.ok W8 (fun vs H Q E h=>?_) (fun Bw A outer s H vs Q E hr h=>?_)
 . obtain⟨a,us,rfl,hS,h40,k⟩:=h
   rfl
 . obtain⟨a,us,rfl,hS,h40,k⟩:=h
   obtain⟨t_MOST_PIECES,c_MOST_PIECES⟩:=T.x_MOST_PIECES
   refine⟨_,(Am (Bu (A7 Ba1 (A0 (Ay (K:=K)) (by rfl) T.n_len PySem.boot_len (Aa (pv 0) Ah)) (Cr (v:=.int 40) (by rfl) c_MOST_PIECES ⟨_,rfl⟩) (A9 _)) (Am Ae8) Be)),?_⟩
   refine⟨_,rfl,a,us,rfl,.inl hS,_,_,rfl,rfl,_,rfl,?_⟩
   refine ifN (by simp;omega) ?_
   exact k
abbrev Gn:Stmt:=top 43
theorem Aj1:FnScope ["chain","prime"] ["chain","prime"] (Aj Gn):=⟨rfl,rfl,rfl,by decide +kernel,rfl,by decide +kernel,by decide +kernel⟩
theorem Ak8 {f:Addr}{fd:FuncData} (F:Fun K "counted" "counted" Gn f fd) (T:Txt K mg Al Ap Au Aw Af As Ao At A3 Ax Ag Ad Av A2 Ar Aq Ac) :FnOk P w K mg base CX0 1 f fd ["chain","prime"] (Kp K):=by
 refine F.ok Aj1 (fun vs H Q E h=>?_) (fun Bw A outer s H vs Q E hr h=>?_)
 . obtain⟨a,ms,p,rfl,ha,hm,hnd0,hp,k⟩:=h
   rfl
 . obtain⟨a,ms,p,rfl,ha,hm,hnd0,hp,k⟩:=h
   refine⟨_,(Am (Bb (Dm (Wa (by rfl)) (by rfl) T.n_dict Hg (Aa (Bd4 (Dj (N':=["place","number","prime"]) (cap:=[none,none,some 1]) (by rfl) (by kernel_rfl) (Xj (pv 0)) (fun _ _ _ _=>(L8 (K:=K) (n:=2) (by rfl) (C4 (Bg (i:=0) Br4 (by rfl) (by first | exact Or.inl rfl | exact Or.inr rfl)) (C4 (Bg (i:=1) Br4 (by rfl) (by first | exact Or.inl rfl | exact Or.inr rfl)) L4)))) (fun _ _ _ _=>(F9 (A7 v7 (Bf Br (pv 1) (pv 2)) Ak (A9 _)))) (fun _ _ _ _=>(Cj (Aa (pv 0) (Aa (Bf Br (pv 1) (pv 2)) Ah)))))) Ah)))),?_⟩
   refine .inr ⟨a,cK ms,ha,fun hnd o=>?_⟩
   refine⟨_,rfl,a,o,cK ms,rfl,Ae,fun D hD=>?_⟩
   obtain⟨hD0,nDa⟩:=Ag0 hD
   refine V0 (d:=a) (o:=o) (kvs:=cK ms) (fun i zs τ H1=>∃ ts:List Addr,zs=ts.map V.ref/\ts.length=(modI p (ms.take i)).length/\(∀ (j:Nat) t,ts[j]?=some t->∃ q:Int × Int,(modI p (ms.take i))[j]?=some q/\H1 t=some (.tup [.int q.1,.int q.2])/\t≠D)/\H1 a=some (.frz o (.dK (cK ms)))/\H1 D=some (.lst zs)/\(∀ c q,c≠a->H c=some q->H1 c=some q)/\∃ o1 o2,τ=[o1,o2,some (.int p)])
    ⟨[],rfl,rfl,(fun j t z=>by simp at z),?_,Ae,?_,none,none,rfl⟩ (fun i zs τ H1 _ ⟨_,_,_,_,e,_⟩=>e) ?_ ?_
   . rw [An nDa.symm];exact Ae
   . intro c q n1 e2
     rw [An (A8 e2 hD0),An n1]
     exact e2
   . rintro i kk x zs τ H1 pr hx ⟨ts,rfl,htl,hts,ha1,hD1,hk1,o1,o2,rfl⟩ hpr
     obtain⟨q,hq,rfl,rfl⟩:=A56 hx
     have hlt:i<ms.length:=(List.getElem?_eq_some_iff.mp hq).1
     have mt:=mod_take (p:=p) hq
     have ml:(modI p (ms.take i)).length<=1000:=Nat.le_trans (Bj9 ..) (by rw [List.length_take];omega)
     have sp:Same H1 (upd H1 pr (.tup [.int q.1,.int q.2])):=Same.new hpr
     refine⟨pr,_,rfl,.of Ae,rfl,_,_,rfl,_,_,rfl,rfl,?_⟩
     refine⟨_,rfl,_,rfl,_,_,rfl,rfl,hp,rfl,_,rfl,?_⟩
     refine ite2 (fun h1=>?_) (fun h1=>?_)
     . have e:¬q.2%p=0:=by simpa using h1
       rw [if_neg e] at mt
       refine⟨_,rfl,_,rfl,_,rfl,_,_,rfl,rfl,hp,Bh (by simp),fun t ht=>?_⟩
       have st:=sp.trans (Same.new (o:=.tup [.int q.1,.int (q.2%p)]) ht)
       have ntD:t≠D:=(A8 (sp _ _ hD1) ht).symm
       refine⟨st _ _ hD1,Du (by rw [List.length_map];omega),ts++[t],by simp,by rw [mt];simp [htl],fun j t' e2=>?_,?_,Ae,fun c r n1 e2=>?_,_,_,rfl⟩
       . rcases D8 e2 with ⟨hj,e2⟩|⟨hj,rfl⟩
         . obtain⟨p',h1',h2',h3'⟩:=hts j t' e2
           exact ⟨p',by rw [mt,List.getElem?_append_left (by omega)];exact h1',by rw [An h3'];exact st _ _ h2',h3'⟩
         . refine⟨(q.1,q.2%p),by rw [mt,hj,htl];simp,?_,ntD⟩
           rw [An ntD]
           exact Ae
       . rw [An nDa.symm];exact st _ _ ha1
       . have:=hk1 c r n1 e2
         rw [An (fun z=>by rw [z,hD0] at e2;cases e2)]
         exact st _ _ this
     . have e:q.2%p=0:=by simpa using h1
       rw [if_pos e] at mt
       rw [←mt] at htl hts
       refine⟨ts,rfl,htl,fun j t e2=>?_,sp _ _ ha1,sp _ _ hD1,fun c r n1 e2=>sp _ _ (hk1 c r n1 e2),_,_,rfl⟩
       obtain⟨p',h1',h2',h3'⟩:=hts j t e2
       exact ⟨p',h1',sp _ _ h2',h3'⟩
   . rintro zs τ H1 ⟨ts,rfl,htl,hts,ha1,hD1,hk1,_⟩
     rw [O7,List.take_length] at htl hts
     refine⟨ha1,D,ts,cK (modI p ms),rfl,(by rw [An nDa];exact hD1),(by rw [O7];exact htl),fun i t e2=>?_,fun E hE=>?_⟩
     . obtain⟨q,h1',h2',_⟩:=hts i t e2
       refine⟨(.inl q.1,.int q.2),?_,?_⟩
       . unfold cK
         rw [List.getElem?_map,h1']
         rfl
       . have nta:t≠a:=Hw h2' ha1 (fun z=>by cases z)
         rw [An nta]
         exact h2'
     . have s1:Same H (upd H1 a (.dK (cK ms))):=fun c q e2=>by
        by_cases z:c=a
        . subst z
          rw [ha] at e2
          cases e2
          exact Ae
        . rw [An z];exact hk1 c q z e2
       refine k E _ (s1.free hE) (s1.trans (Same.new hE)) ?_
       rw [Ae,Jx _ [] (by rw [List.nil_append];exact Xz.mpr (Bd8 hnd0)),List.nil_append]
abbrev Cw:Stmt:=Ma (top 45) 4
theorem Qz:FnScope ["self"] ["self"] (Aj Cw):=⟨rfl,rfl,rfl,by decide +kernel,rfl,by decide +kernel,by decide +kernel⟩
theorem Rj {f:Addr}{fd:FuncData} (F:Fun K "shape" "Growth.shape" Cw f fd) (T:Txt K mg Al Ap Au Aw Af As Ao At A3 Ax Ag Ad Av A2 Ar Aq Ac) :FnOk P w K mg base CX0 1 f fd ["self"] (Qm K Ac):=by
 refine F.ok Qz (fun vs H Q E h=>?_) (fun Bw A outer s H vs Q E hr h=>?_)
 . obtain⟨g,pc,sh,ed,en,p,xs,es,ss,bs,rfl,x,k⟩:=h
   rfl
 . obtain⟨g,pc,sh,ed,en,p,xs,es,ss,bs,rfl,x,k⟩:=h
   refine⟨_,(Am (Bb (Dm (Mw (K:=K)) (by rfl) T.n_list Wd (Aa (B6 (K:=K) (pv 0)) Ah)))),?_⟩
   obtain⟨dx,fs,hg,l1,l2,l3,l4,l5,lm⟩:=x.ob
   obtain⟨us,hpc,r⟩:=x.pcs
   exact ⟨_,rfl,g,Ac,dx,fs,_,rfl,hg,T.cl_Growth,T.na_Growth_pieces,l2,pc,us,rfl,.inl (.of hpc),fun l hl=>k l us _ hl (Same.new hl) Ae (Reps.same (Same.new hl) r)⟩
abbrev Cg:Stmt:=Ma (top 45) 6
theorem Q1:FnScope ["self"] ["self"] (Aj Cg):=⟨rfl,rfl,rfl,by decide +kernel,rfl,by decide +kernel,by decide +kernel⟩
theorem Rl {f:Addr}{fd:FuncData} (F:Fun K "pairs" "Growth.pairs" Cg f fd) (T:Txt K mg Al Ap Au Aw Af As Ao At A3 Ax Ag Ad Av A2 Ar Aq Ac) :FnOk P w K mg base CX0 1 f fd ["self"] (Mp K Ac):=by
 refine F.ok Q1 (fun vs H Q E h=>?_) (fun Bw A outer s H vs Q E hr h=>?_)
 . obtain⟨g,pc,sh,ed,en,p,xs,es,ss,bs,rfl,x,k⟩:=h
   rfl
 . obtain⟨g,pc,sh,ed,en,p,xs,es,ss,bs,rfl,x,k⟩:=h
   have hu8:(A.deeper (PyProof.Rows.envOfC "Growth.pairs" (Aj Cg) s.heap.objs.size f Bw)).units+8<cLine:=by have:=hr.units;omega
   refine⟨_,(Am (Bb (Dj (N':=["birth","edge","self"]) (cap:=[none,none,some 0]) (by rfl) (by kernel_rfl) (Bh5 (K:=K) (by rfl) T.n_enumerate (Aa (B6 (K:=K) (pv 0)) Ah)) (fun _ _ _ _=>(L8 (K:=K) (n:=2) (by rfl) (C4 (Bg (i:=0) Br3 (by rfl) (by first | exact Or.inl rfl | exact Or.inr rfl)) (C4 (Bg (i:=1) Br3 (by rfl) (by first | exact Or.inl rfl | exact Or.inr rfl)) L4)))) (fun _ _ _ _=>(F9 (A7 Dk (A0 Th (by rfl) T.n_len PySem.boot_len (Aa (pv 1) Ah)) Ak (A9 _)))) (fun _ _ _ _=>(Cj (Aa (pv 0) (Aa (A92 (u1 hu8) (B6 (K:=K) (pv 2)) (pv 0) ⟨by rfl,by rfl,by rfl,by rfl⟩) Ah))))))),?_⟩
   obtain⟨dx,fs,hg,l1,l2,l3,l4,l5,lm⟩:=x.ob
   obtain⟨ds,hed,dl,dg⟩:=x.eds.ex
   have le40:es.length<=40:=by rw [x.gw.le];exact x.gw.n40
   refine⟨_,rfl,g,Ac,dx,fs,_,rfl,hg,T.cl_Growth,T.na_Growth_edges,l4,ed,rfl,⟨_,.of hed⟩,fun D hD=>?_⟩
   refine A47 (K:=K) (a:=ed) (xs:=ds.map V.ref) (fun i ys τ G=>i<=es.length/\Same H G/\G D=some (.lst ys)/\Reps K G ys (La es bs i)/\∃ o1 o2,τ=[o1,o2,some (.ref g)])
    ⟨Nat.zero_le _,Same.new hD,Ae,rfl,none,none,rfl⟩ (fun i ys τ G _ ⟨_,g1,_⟩=>.of (g1 _ _ hed)) ?_ ?_
   . rintro i y ys τ G pr hy ⟨hi,g1,hDG,ry,o1,o2,rfl⟩ hp
     have hid:i<ds.length:=by have:=(List.getElem?_eq_some_iff.mp hy).1;simpa using this
     have hie:i<es.length:=by omega
     have hem:es[i]?=some (es.getD i []):=Be9 hie
     have hdi:ds[i]?=some ds[i]:=List.getElem?_eq_getElem hid
     obtain⟨hde,nde⟩:=dg i _ _ hdi hem
     have hyv:y=.ref ds[i]:=by
      rw [List.getElem?_map,hdi] at hy
      exact (Option.some.inj hy).symm
     subst hyv
     have yl:ys.length<=i:=by have:=ry.length;rw [this];exact Ak7 ..
     have sp:=Same.new (o:=.tup [.int (i:Int),.ref ds[i]]) hp
     have g2:=g1.trans sp
     refine⟨pr,_,rfl,.of Ae,rfl,_,_,rfl,_,_,rfl,rfl,?_⟩
     generalize upd G pr (.tup [.int (i:Int),.ref ds[i]])=G1 at sp g2 ⊢
     have hDG1:=sp _ _ hDG
     refine⟨_,rfl,_,cK (es.getD i []),rfl,g2 _ _ hde,rfl,_,rfl,?_⟩
     rw [O7]
     have bs_:=Aq6 es i
     refine ite2 (fun h1=>?_) (fun h1=>?_)
     . have h2:es.getD i []=[]:=by
        have:((es.getD i []).length:Int)=0:=by simpa using h1
        exact List.length_eq_zero_iff.mp (by omega)
       rw [if_pos h2] at bs_
       refine⟨_,rfl,_,rfl,g,Ac,dx,fs,_,rfl,g2 _ _ hg,T.cl_Growth,T.na_Growth_enders,l5,en,rfl,.inl ⟨_,.inl (g2 _ _ x.ens)⟩,_,rfl,(lookI bs (i:Int)).map V.int,.inl ⟨cK bs,.inl (i:Int),.inl (g2 _ _ x.ens),rfl,(Wc _ _).symm⟩,?_⟩
       rw [Bl3]
       refine⟨Bh (by simp),fun t ht=>?_⟩
       have st:=Same.new (o:=.tup [.int (i:Int),endV bs (i:Int)]) ht
       have et:upd G1 t (.tup [.int (i:Int),endV bs (i:Int)]) t=some (.tup [.int (i:Int),endV bs (i:Int)]):=Ae
       generalize upd G1 t (.tup [.int (i:Int),endV bs (i:Int)])=G2 at st et ⊢
       have hDG2:=st _ _ hDG1
       refine⟨hDG2,Du (by omega),by omega,(g2.trans st).turn hD,Ae,?_,_,_,rfl⟩
       have e:La es bs (i+1)=La es bs i++[Hv bs i]:=by unfold La;rw [bs_,List.map_append];rfl
       rw [e]
       refine Reps.t (Ow.lst hDG2) ?_ (Reps.append (Reps.same (sp.trans st) ry) ⟨_,_,rfl,⟨t,_,rfl,.of et,⟨_,_,rfl,rfl,⟨_,_,rfl,Bg6 _ _,rfl⟩⟩⟩,rfl⟩)
       have:=Nv bs (C6 es i++[i])
       rw [List.map_append] at this
       exact this
     . have h2:¬es.getD i []=[]:=fun z=>h1 (by rw [z];rfl)
       rw [if_neg h2] at bs_
       refine⟨by omega,g2,hDG1,?_,_,_,rfl⟩
       have e:La es bs (i+1)=La es bs i:=by unfold La;rw [bs_]
       rw [e]
       exact Reps.same sp ry
   . rintro ys τ G ⟨hi,g1,hDG,ry,_⟩
     rw [List.length_map,dl] at ry
     exact k D ys G hD g1 hDG ry
abbrev Fg:Stmt:=top 46
theorem u6:FnScope ["pair","stage"] ["pair","stage"] (Aj Fg):=⟨rfl,rfl,rfl,by decide +kernel,rfl,by decide +kernel,by decide +kernel⟩
theorem y3 {f:Addr}{fd:FuncData} (F:Fun K "is_alive" "is_alive" Fg f fd) (T:Txt K mg Al Ap Au Aw Af As Ao At A3 Ax Ag Ad Av A2 Ar Aq Ac) :FnOk P w K mg base CX0 1 f fd ["pair","stage"] (Qi K):=by
 refine F.ok u6 (fun vs H Q E h=>?_) (fun Bw A outer s H vs Q E hr h=>?_)
 . obtain⟨t,bs,j,st,rfl,ht,k⟩:=h
   rfl
 . obtain⟨t,bs,j,st,rfl,ht,k⟩:=h
   refine⟨_,(Am (Bb (F4 (B8 Nw (Bx (Bm (K:=K)) (pv 0) Ak (fun _ _=>rfl)) (pv 1) (A9 _)) (F3 (Bh7 (B8 Rc (Bx (Bm (K:=K)) (pv 0) Ak (fun _ _=>rfl)) Ev (A9 _)) (F3 (B8 Bi6 (Bx (Bm (K:=K)) (pv 0) Ak (fun _ _=>rfl)) (pv 1) (A9 _)))))))),?_⟩
   refine⟨_,rfl,t,_,_,_,rfl,rfl,ht,at0 _ _,_,rfl,_,_,rfl,rfl,_,rfl,?_⟩
   unfold aliveB at k
   refine ite2 (fun h=>?_) (fun h=>?_)
   rotate_left
   . rw [Bool.eq_false_iff.mpr h] at k
     simpa using k
   rw [h] at k
   refine⟨_,rfl,t,_,_,_,rfl,rfl,ht,at1 _ _ _,rfl,_,rfl,?_⟩
   unfold endV at ht ⊢
   cases hl:lookI bs (j:Int) with
   | none =>
     rw [hl] at k
     refine ite2 (fun h2=>?_) (fun h2=>absurd (by simp) h2)
     exact k
   | some e =>
     rw [hl] at k ht
     refine ite2 (fun h2=>absurd h2 (by simp)) (fun h2=>?_)
     refine⟨_,rfl,t,_,_,_,rfl,rfl,ht,at1 _ _ _,_,rfl,_,_,rfl,rfl,?_⟩
     exact k
abbrev Go:Stmt:=top 48
theorem Aj2:FnScope ["_law_found"] ["_law_found"] (Aj Go):=⟨rfl,rfl,rfl,by decide +kernel,rfl,by decide +kernel,by decide +kernel⟩
theorem Ak9 {f:Addr}{fd:FuncData} (F:Fun K "_law_whole" "_law_whole" Go f fd) (T:Txt K mg Al Ap Au Aw Af As Ao At A3 Ax Ag Ad Av A2 Ar Aq Ac) :FnOk P w K mg base CX0 1 f fd ["_law_found"] (Et K):=by
 refine F.ok Aj2 (fun vs H Q E h=>?_) (fun Bw A outer s H vs Q E hr h=>?_)
 . obtain⟨x,e,rfl,hx,k⟩:=h
   rfl
 . obtain⟨x,e,rfl,hx,k⟩:=h
   refine⟨_,(Am (Bb (F4 (A0 (Hf (K:=K)) (by rfl) T.n_isinstance A4 (Aa (pv 0) (Aa (Jr (v:=.ty "int") rfl T.n_int boot_intT rfl) Ah))) (F3 (Bd3 (A0 (Hf (K:=K)) (by rfl) T.n_isinstance A4 (Aa (pv 0) (Aa (Jr (v:=.ty "bool") rfl T.n_bool We rfl) Ah)))))))),?_⟩
   have e0:Ae3 e=(isT "int" (.one e)&&!isT "bool" (.one e)):=by cases e<;>rfl
   refine⟨_,rfl,x,"int",.one e,rfl,.inl rfl,hx,_,rfl,?_⟩
   refine ite2 (fun h=>?_) (fun h=>?_)
   . refine⟨_,rfl,x,"bool",.one e,rfl,.inr (.inl rfl),hx,_,rfl,?_⟩
     rw [e0,h] at k
     exact k
   . rw [e0,Bool.eq_false_iff.mpr h] at k
     exact k
abbrev Ec:Stmt:=top 49
theorem Zd:FnScope ["_law_script","_law_k"] ["_law_script","_law_k"] (Aj Ec):=⟨rfl,rfl,rfl,by decide +kernel,rfl,by decide +kernel,by decide +kernel⟩
theorem Zm {f:Addr}{fd:FuncData} (F:Fun K "_law_cell_at" "_law_cell_at" Ec f fd) (T:Txt K mg Al Ap Au Aw Af As Ao At A3 Ax Ag Ad Av A2 Ar Aq Ac) :FnOk P w K mg base CX0 1 f fd ["_law_script","_law_k"] (Jm K):=by
 refine F.ok Zd (fun vs H Q E h=>?_) (fun Bw A outer s H vs Q E hr h=>?_)
 . obtain⟨a,ns,k,rfl,hS,h0,hl,kq⟩:=h
   rfl
 . obtain⟨a,ns,k,rfl,hS,h0,hl,kq⟩:=h
   refine⟨_,(Ai (Bu (A7 Nw (pv 1) (A0 (Ay (K:=K)) (by rfl) T.n_len PySem.boot_len (Aa (pv 0) Ah)) (A9 _)) (Am (Bb (Bx (Bt (K:=K)) (pv 0) (pv 1) (fun _ _=>rfl)))) Be)
    (Am (Bb Ak))),?_⟩
   refine⟨_,rfl,_,rfl,a,_,rfl,.inl hS,_,_,rfl,rfl,_,rfl,?_⟩
   refine ite2 (fun h1=>?_) (fun h1=>?_)
   . have h2:k<(ns.length:Int):=by simpa using h1
     have e:atI (ns.map V.int) k=some (.int (f8 ns k)):=by
      obtain⟨j,rfl⟩:=Int.eq_ofNat_of_zero_le h0
      refine Ei ?_
      have hj:j<ns.length:=by omega
      rw [List.getElem?_map,List.getElem?_eq_getElem hj]
      simp [f8,hj]
     exact ⟨_,rfl,_,rfl,a,_,k,_,rfl,rfl,hS,e,kq⟩
   . have h2:¬k<(ns.length:Int):=by simpa using h1
     have e:f8 ns k=0:=by
      unfold f8
      have:ns.length<=k.toNat:=by omega
      simp [this]
     rw [e] at kq
     exact kq
abbrev Gs:Stmt:=top 50
theorem Aj6:FnScope ["_law_piece"] ["_law_piece"] (Aj Gs):=⟨rfl,rfl,rfl,by decide +kernel,rfl,by decide +kernel,by decide +kernel⟩
theorem Al3 {f:Addr}{fd:FuncData} (F:Fun K "_law_level" "_law_level" Gs f fd) (T:Txt K mg Al Ap Au Aw Af As Ao At A3 Ax Ag Ad Av A2 Ar Aq Ac) :FnOk P w K mg base CX0 1 f fd ["_law_piece"] (Cc K):=by
 refine F.ok Aj6 (fun vs H Q E h=>?_) (fun Bw A outer s H vs Q E hr h=>?_)
 . obtain⟨x,ds,rfl,hx,k⟩:=h
   rfl
 . obtain⟨x,ds,rfl,hx,k⟩:=h
   refine⟨_,(Am (Bb (A0 (i4 (by rfl)) (by rfl) T.n_max Kk (Aa Ak (Aa (Bf Lb (A0 (Ay (K:=K)) (by rfl) T.n_len PySem.boot_len (Aa (pv 0) Ah)) Ak) Ah))))),?_⟩
   obtain⟨p,us,e,hq,hl⟩:∃ (p:Addr) (us:List V),x=.ref p/\(SqL K H p us\/SqT K H p us)/\us.length=ds.length:=by
    rcases hx with ⟨p,us,e,hq,r⟩|⟨p,us,e,hq,r⟩
    . exact ⟨p,us,e,.inl hq,r.length⟩
    . exact ⟨p,us,e,.inr hq,r.length⟩
   subst e
   refine⟨_,rfl,p,us,rfl,hq,_,_,rfl,rfl,_,_,rfl,?_⟩
   rw [hl]
   rw [show (if ((ds.length:Nat):Int)-1 > 0 then ((ds.length:Nat):Int)-1 else 0)=levI ds.length by unfold levI;split<;>split<;>omega]
   exact k
abbrev Gq:Stmt:=top 51
theorem Aj4:FnScope ["_law_pieces","_law_faces","_law_face","_law_i"] ["_law_pieces","_law_faces","_law_face"] (Aj Gq):=⟨rfl,rfl,rfl,by decide +kernel,rfl,by decide +kernel,by decide +kernel⟩
theorem An0:(["_law_pieces","_law_faces","_law_face","_law_i"]:List Str).Nodup:=by decide +kernel
theorem Al1 {f:Addr}{fd:FuncData} (F:Fun K "_law_meets" "_law_meets" Gq f fd) (T:Txt K mg Al Ap Au Aw Af As Ao At A3 Ax Ag Ad Av A2 Ar Aq Ac) :FnOk P w K mg base CX0 1 f fd ["_law_pieces","_law_faces","_law_face"] (Ml K):=by
 refine F.ok Aj4 (fun vs H Q E h=>?_) (fun Bw A outer s H vs Q E hr h=>?_)
 . obtain⟨a,v,xs,fs,f0,rfl,hL,hv,f1,f2,hg,hf4,hcase,k⟩:=h
   rfl
 . obtain⟨a,v,xs,fs,f0,rfl,hL,hv,f1,f2,hg,hf4,hcase,k⟩:=h
   refine⟨_,(Ai (Bu (A7 Dk (A0 (Ay (K:=K)) (by rfl) T.n_len PySem.boot_len (Aa (Bx (Bt (K:=K)) (pv 0) (pv 2) (fun _ _=>rfl)) Ah)) Ak (A9 _)) (Am (Bb Js)) Be)
    (Ai (D1 PassesOwn.never rfl (Cu (by rfl) T.n_range (Aa (A0 (Ay (K:=K)) (by rfl) T.n_len PySem.boot_len (Aa (pv 1) Ah)) Ah)) (Bg (i:=3) An0 (by rfl) (by first | exact Or.inl rfl | exact Or.inr rfl)) (Am (Bu (A7 v7 (Bx (Bm (K:=K)) (Bx (Bt (K:=K)) (pv 0) (pv 2) (fun _ _=>rfl)) (pv 3) (fun _ _=>rfl)) (Bx (Bm (K:=K)) (Bx (Bt (K:=K)) (pv 0) (Bx (Bm (K:=K)) (pv 1) (pv 3) (fun _ _=>rfl)) (fun _ _=>rfl)) (Bf Lb (A0 (Ay (K:=K)) (by rfl) T.n_len PySem.boot_len (Aa (pv 1) Ah)) Ak) (fun _ _=>rfl)) (A9 _)) (Am (Bb Js)) Be)))
    (Am (Bb Js)))),?_⟩
   obtain⟨xu,vx,hxq,hvx,tvx⟩:=LT.get hL f1 f2
   obtain⟨ax,rfl,sqx⟩:=TI.sq tvx
   obtain⟨af,rfl,sqf⟩:=TI.sq hv
   refine⟨_,rfl,_,rfl,a,xu,_,_,rfl,rfl,hxq,hvx,ax,_,rfl,.inr sqx,rfl,_,rfl,?_⟩
   rw [List.length_map]
   refine ite2 (fun h1=>?_) (fun h1=>?_)
   . have hz:(xs.getD f0.toNat []).length=0:=by
      have:((xs.getD f0.toNat []).length:Int)=0:=by simpa using h1
      omega
     have e:meetsB xs fs f0=true:=by unfold meetsB;rw [decide_eq_true hz];rfl
     rw [e] at k
     exact k
   have hne:¬(xs.getD f0.toNat []).length=0:=fun z=>h1 (by rw [z];rfl)
   obtain⟨c1,c2⟩:=hcase.resolve_left hne
   have em:meetsB xs fs f0=(List.range fs.length).all fun i=>decide ((xs.getD f0.toNat []).getD i 0=(xs.getD (fs.getD i 0).toNat []).getD (fs.length-1) 0):=by unfold meetsB;rw [decide_eq_false hne];rfl
   refine⟨_,rfl,af,_,rfl,.inr sqf,_,rfl,by rw [List.length_map];omega,by rw [List.length_map];omega,?_⟩
   rw [List.length_map]
   refine C9 (lo:=0) (n:=fs.length) (fun i σ G=>∃ o3,σ=[some (.ref a),some (.ref af),some (.int f0),o3]/\H=G/\∀ i',i'<i->(xs.getD f0.toNat []).getD i' 0=(xs.getD (fs.getD i' 0).toNat []).getD (fs.length-1) 0) ⟨_,rfl,rfl,fun i' h=>absurd h (by omega)⟩ ?_ ?_
   . rintro i σ G hi ⟨o3,rfl,rfl,hall⟩
     rw [show (0:Int)+(i:Int)=(i:Int) by omega]
     have hgm:=Ef (d:=0) hi
     obtain⟨g0,g1⟩:=hg _ hgm
     have c3:=c2 _ hgm
     have hatf:atI (fs.map V.int) (i:Int)=some (.int (fs.getD i 0)):=by
      have:=O8 (sp:=fs) (x:=(i:Int)) (by omega) (by omega)
      rwa [Int.toNat_natCast] at this
     have hatx:atI ((xs.getD f0.toNat []).map V.int) (i:Int)=some (.int ((xs.getD f0.toNat []).getD i 0)):=by
      have:=O8 (sp:=xs.getD f0.toNat []) (x:=(i:Int)) (by omega) (by omega)
      rwa [Int.toNat_natCast] at this
     have hatg:atI ((xs.getD (fs.getD i 0).toNat []).map V.int) ((fs.length:Int)-1)=some (.int ((xs.getD (fs.getD i 0).toNat []).getD (fs.length-1) 0)):=by
      have:=O8 (sp:=xs.getD (fs.getD i 0).toNat []) (x:=(fs.length:Int)-1) (by omega) (by omega)
      rwa [show ((fs.length:Int)-1).toNat=fs.length-1 by omega] at this
     obtain⟨gu,vg,hgq,hvg,tvg⟩:=LT.get hL g0 g1
     obtain⟨ag,rfl,sqg⟩:=TI.sq tvg
     refine⟨_,rfl,_,rfl,a,xu,_,_,rfl,rfl,hxq,hvx,_,rfl,ax,_,_,_,rfl,rfl,sqx,hatx,_,rfl,_,rfl,_,rfl,af,_,_,_,rfl,rfl,sqf,hatf,a,gu,_,_,rfl,rfl,hgq,hvg,_,rfl,af,_,rfl,.inr sqf,_,_,rfl,rfl,ag,_,_,_,rfl,rfl,sqg,(by rw [List.length_map];exact hatg),rfl,_,rfl,?_⟩
     by_cases he:(xs.getD f0.toNat []).getD i 0=(xs.getD (fs.getD i 0).toNat []).getD (fs.length-1) 0
     . refine ifN (eqI he) ?_
       refine⟨_,rfl,rfl,fun i' hi'=>?_⟩
       by_cases z:i'=i
       . subst z;exact he
       . exact hall i' (by omega)
     . refine ifP (neI he) ?_
       have e:meetsB xs fs f0=false:=by
        rw [em,List.all_eq_false]
        exact ⟨i,List.mem_range.mpr hi,by simpa using he⟩
       rw [e] at k
       exact k
   . rintro σ G ⟨o3,rfl,rfl,hall⟩
     have e:meetsB xs fs f0=true:=by
      rw [em,List.all_eq_true]
      exact fun i hi=>decide_eq_true (hall i (List.mem_range.mp hi))
     rw [e] at k
     exact k
abbrev Kr:Stmt:=top 53
theorem At5:FnScope ["_law_cell","_law_j","_law_many","_law_mixed"] ["_law_cell","_law_j","_law_many"] (Aj Kr):=⟨rfl,rfl,rfl,by decide +kernel,rfl,by decide +kernel,by decide +kernel⟩
theorem Ay3:(["_law_cell","_law_j","_law_many","_law_mixed"]:List Str).Nodup:=by decide +kernel
theorem Aw3 {f:Addr}{fd:FuncData} (F:Fun K "_law_pick" "_law_pick" Kr f fd) (T:Txt K mg Al Ap Au Aw Af As Ao At A3 Ax Ag Ad Av A2 Ar Aq Ac) :FnOk P w K mg base CX0 1 f fd ["_law_cell","_law_j","_law_many"] (Mo K):=by
 refine F.ok At5 (fun vs H Q E h=>?_) (fun Bw A outer s H vs Q E hr h=>?_)
 . obtain⟨c,j,m,rfl,hm,k⟩:=h
   rfl
 . obtain⟨c,j,m,rfl,hm,k⟩:=h
   refine⟨_,(Ai (A5 (i:=3) Ay3 (by rfl) (by first | exact Or.inl rfl | exact Or.inr rfl) (Bf op_mulX (Bf Ew (Bf Br (pv 0) Ak) Ak) (Bx (Bm (K:=K)) (Cj (Aa Ak (Aa Ak (Aa Ak (Aa Ak Ah))))) (Bf Br (pv 1) Ak) (fun _ _=>rfl))))
    (Am (Bb (Bf Br (Bf Br (pv 3) (Bx (Bm (K:=K)) (Cj (Aa Ak (Aa Ak (Aa Ak (Aa Ak Ah))))) (Bf Br (pv 1) Ak) (fun _ _=>rfl))) (pv 2))))),?_⟩
   have p4:(0:Int)<4:=by decide
   have c0:=Int.emod_nonneg c (show (1000003:Int)≠0 by decide)
   have c1:=Int.emod_lt_of_pos c (show (0:Int)<1000003 by decide)
   have j0:=Int.emod_nonneg j (show (4:Int)≠0 by decide)
   have j1:=Int.emod_lt_of_pos j p4
   have four:∀ a b c d:Int,0<a->0<b->0<c->0<d->a<100000->b<100000->c<100000->d<100000->∃ x:Int,atI [V.int a,V.int b,V.int c,V.int d] (j%4)=some (.int x)/\0<x/\x<100000:=fun a b c d a0 b0 c0 d0 a1 b1 c1 d1=>by
    rcases (show j%4=0\/j%4=1\/j%4=2\/j%4=3 by omega) with e | e | e | e<;>rw [e]
    . exact ⟨a,rfl,a0,a1⟩
    . exact ⟨b,rfl,b0,b1⟩
    . exact ⟨c,rfl,c0,c1⟩
    . exact ⟨d,rfl,d0,d1⟩
   refine A6 (fun σ' H'=>∃ x:Int,σ'=[some (.int c),some (.int j),some (.int m),some (.int x)]/\Same H H') ?_ fun key=>?_
   rotate_left
   . refine⟨_,rfl,_,_,rfl,rfl,(by show (0:Int)<1000003;decide),_,_,rfl,rfl,Bh (by simp),fun T1 hT1=>?_⟩
     obtain⟨x,hx,x0,x1⟩:=four 48271 69621 16807 39373 (by decide) (by decide) (by decide) (by decide) (by decide) (by decide) (by decide) (by decide)
     refine⟨_,rfl,_,_,rfl,rfl,p4,T1,_,_,_,rfl,rfl,.of Ae,hx,_,_,rfl,rfl,O1 (by omega) (by omega),?_⟩
     exact key _ _ ⟨_,rfl,Same.new hT1⟩
   rintro _ H1 ⟨x,rfl,s1⟩
   refine⟨_,rfl,Bh (by simp),fun T1 hT1=>?_⟩
   obtain⟨y,hy,y0,y1⟩:=four 65537 50021 99991 32749 (by decide) (by decide) (by decide) (by decide) (by decide) (by decide) (by decide) (by decide)
   refine⟨_,rfl,_,_,rfl,rfl,p4,T1,_,_,_,rfl,rfl,.of Ae,hy,_,_,rfl,rfl,y0,_,rfl,_,_,rfl,rfl,hm,?_⟩
   exact k _ _ (s1.trans (Same.new hT1)) (Int.emod_nonneg _ (by omega)) (Int.emod_lt_of_pos _ hm)
abbrev D0:Stmt:=top 56
theorem Xb:FnScope ["_law_word","_law_family","_law_size","_law_faces","_law_i"] ["_law_word","_law_family"] (Aj D0):=⟨rfl,rfl,rfl,by decide +kernel,rfl,by decide +kernel,by decide +kernel⟩
theorem Hx:(["_law_word","_law_family","_law_size","_law_faces","_law_i"]:List Str).Nodup:=by decide +kernel
theorem Xp {f:Addr}{fd:FuncData} (F:Fun K "_law_faces_by" "_law_faces_by" D0 f fd) (T:Txt K mg Al Ap Au Aw Af As Ao At A3 Ax Ag Ad Av A2 Ar Aq Ac) :FnOk P w K mg base CX0 1 f fd ["_law_word","_law_family"] (E7 K):=by
 refine F.ok Xb (fun vs H Q E h=>?_) (fun Bw A outer s H vs Q E hr h=>?_)
 . obtain⟨v,w,fam,rfl,hv,hw,k⟩:=h
   rfl
 . obtain⟨v,w,fam,rfl,hv,hw,k⟩:=h
   refine⟨_,(Ai (A5 (i:=2) Hx (by rfl) (by first | exact Or.inl rfl | exact Or.inr rfl) (A0 (Ay (K:=K)) (by rfl) T.n_len PySem.boot_len (Aa (pv 0) Ah)))
    (Ai (Bu (A7 Dk (pv 1) Ak (A9 _)) (Ai (Bu (A7 Nw (pv 2) Ak (A9 _)) (Am (Bb (Cl Ah))) Be)
    (Am (Bb (Dj (N':=["_law_i","_law_word"]) (cap:=[none,some 0]) (by rfl) (by kernel_rfl) (Cu (by rfl) T.n_range (Aa (pv 2) Ah)) (fun _ _ _ _=>(Bg (i:=0) Bs2 (by rfl) (by first | exact Or.inl rfl | exact Or.inr rfl))) (fun _ _ _ _=>Fl) (fun _ _ _ _=>(Bf (Mv (K:=K)) (E8 (Ia (K:=K)) (pv 1) Lz (Fm (pv 0))) (E8 (Ia (K:=K)) (pv 1) (Fm (Bf Ew (pv 0) Ak)) Lz))))))) Be)
    (Ai (Bu (A7 Dk (pv 2) Ak (A9 _)) (Am (Bb (Cl Ah))) Be)
    (Ai (Bu (A7 Nw (pv 1) Ak (A9 _)) (Ai (Bu (A7 Dk (pv 2) Ak (A9 _)) (Am (Bb (Cl (Aa (Cj Ah) (Aa (Cj Ah) Ah))))) Be)
    (Am (Bb (Dj (N':=["_law_letter"]) (cap:=[none]) (by rfl) (by kernel_rfl) (R6 (K:=K) (pv 0)) (fun _ _ _ _=>(Bg (i:=0) Bs3 (by rfl) (by first | exact Or.inl rfl | exact Or.inr rfl))) (fun _ _ _ _=>Fl) (fun _ _ _ _=>(Cj (Aa (pv 0) Ah))))))) Be)
    (Ai (A5 (i:=3) Hx (by rfl) (by first | exact Or.inl rfl | exact Or.inr rfl) (Cl (Aa (E8 (Ia (K:=K)) (pv 0) (Fm Ak) Lz) Ah)))
    (Ai (D1 PassesOwn.never rfl (Cu (by rfl) T.n_range (Aa (Bf Lb (pv 2) Ak) Ah)) (Bg (i:=4) Hx (by rfl) (by first | exact Or.inl rfl | exact Or.inr rfl)) (Am (Di (Le (K:=K) PySem.F.plainAttrs_list PySem.F.slot_list_append PySem.F.type_list_append Do (pv 3) (Aa (Bf (Mv (K:=K)) (Bf (Mv (K:=K)) (E8 (Ia (K:=K)) (pv 0) Lz (Fm (pv 4))) (Cj (Aa (Bf Br (Bf Ew (Bx (Bm (K:=K)) (pv 0) (pv 4) (fun _ _=>rfl)) (Bx (Bm (K:=K)) (pv 0) (Bf Ew (pv 4) Ak) (fun _ _=>rfl))) (pv 1)) Ah))) (E8 (Ia (K:=K)) (pv 0) (Fm (Bf Ew (pv 4) Ak)) Lz)) Ah)))))
    (Ai (Di (Le (K:=K) PySem.F.plainAttrs_list PySem.F.slot_list_append PySem.F.type_list_append Do (pv 3) (Aa (E8 (Ia (K:=K)) (pv 0) Lz (Fm (Bf Lb (pv 2) Ak))) Ah)))
    (Am (Bb (pv 3)))))))))),?_⟩
   obtain⟨aw,rfl,hq⟩:=hv.sq
   have hlen:(w.map V.int).length=w.length:=List.length_map ..
   have hl4:w.length<=4:=by rcases hw with z | z | z<;>omega
   refine⟨_,rfl,aw,_,rfl,.inr hq,?_⟩
   rw [hlen]
   refine⟨_,rfl,rfl,_,rfl,?_⟩
   refine ite2 (fun h1=>?_) (fun h1=>?_)
   . have hf:fam=0:=by simpa using h1
     subst hf
     refine⟨_,rfl,_,_,rfl,rfl,_,rfl,?_⟩
     refine ite2 (fun h2=>?_) (fun h2=>?_)
     . have h3:w.length<2:=by have:(w.length:Int)<2:=by simpa using h2
                              omega
       refine⟨Nat.zero_le _,fun p hp=>?_⟩
       refine k p [] _ hp (Same.new hp) Ae ?_
       have e:Az w 0=[]:=by unfold Az;rw [if_pos rfl,if_pos h3]
       rw [e]
       rfl
     . have h3:¬w.length<2:=by have:¬(w.length:Int)<2:=by simpa using h2
                               omega
       have e:Az w 0=(List.range w.length).map fun i=>w.take i++w.drop (i+1):=by unfold Az;rw [if_pos rfl,if_neg h3]
       rw [e] at k
       refine⟨_,rfl,_,rfl,by omega,by omega,fun D hD=>?_⟩
       refine Mg (fun i ys τ H1=>i<=w.length/\Same H H1/\H1 D=some (.lst ys)/\Reps K H1 ys (((List.range i).map fun i=>w.take i++w.drop (i+1)).map tI)/\∃ o,τ=[o,some (.ref aw)])
        ⟨Nat.zero_le _,Same.new hD,Ae,rfl,none,rfl⟩ ?_ ?_
       . rintro i ys τ H1 hi ⟨hi1,s1,hD1,r1,o,rfl⟩
         have hi2:i<w.length:=by simpa using hi
         have hq1:SqT K H1 aw (w.map V.int):=s1.seqT hq
         refine⟨_,rfl,_,rfl,_,rfl,aw,_,rfl,hq1,?_,fun p1 H2 s2 q2=>?_⟩
         . rw [hlen];rintro ⟨_,z⟩
           rw [show ((0:Int)+(i:Int))=((i:Nat):Int) by omega,HT.sIx_nat] at z
           omega
         refine⟨_,rfl,_,rfl,_,_,rfl,rfl,_,rfl,aw,_,rfl,s2.seqT hq1,?_,fun p2 H3 s3 q3=>?_⟩
         . rw [hlen];rintro ⟨z,_⟩
           rw [show ((0:Int)+(i:Int)+1)=((i+1:Nat):Int) by omega,HT.sIx_nat] at z
           omega
         rw [show ((0:Int)+(i:Int))=((i:Nat):Int) by omega,Qa] at q2
         rw [show ((0:Int)+(i:Int)+1)=((i+1:Nat):Int) by omega,Yp] at q3
         refine⟨p1,p2,_,_,rfl,rfl,s3.seqT q2,q3,?_,fun p H4 s4 q4=>?_⟩
         . refine Bh ?_
           simp only [List.length_take,List.length_drop,List.length_map]
           omega
         have s14:Same H1 H4:=(s2.trans s3).trans s4
         have hD4:H4 D=some (.lst ys):=s14 _ _ hD1
         have t4:TI K H4 (.ref p) (w.take i++w.drop (i+1)):=by
          refine TI.mk ?_
          rw [List.map_append,List.map_take,List.map_drop]
          exact q4
         have r4:Reps K H4 ys (((List.range i).map fun i=>w.take i++w.drop (i+1)).map tI):=Reps.same s14 r1
         have hyl:ys.length=i:=by have:=r1.length;simpa using this
         refine⟨hD4,Du (by omega),by omega,(s1.trans s14).turn hD,Ae,?_,_,rfl⟩
         rw [List.range_succ,List.map_append]
         exact Ht hD4 r4 t4
       . rintro ys τ H1 ⟨_,s1,hD1,r1,_⟩
         rw [show ((w.length:Int)).toNat=w.length by omega] at r1
         exact k D ys H1 hD s1 hD1 r1
   . have hf:¬fam=0:=by simpa using h1
     refine⟨_,rfl,rfl,_,rfl,?_⟩
     refine ite2 (fun h2=>?_) (fun h2=>?_)
     . have h3:w.length=0:=by simpa using h2
       refine⟨Nat.zero_le _,fun p hp=>?_⟩
       refine k p [] _ hp (Same.new hp) Ae ?_
       have e:Az w fam=[]:=by unfold Az;rw [if_neg hf,if_pos h3]
       rw [e]
       rfl
     have h3:¬w.length=0:=by simpa using h2
     refine⟨_,rfl,_,_,rfl,rfl,_,rfl,?_⟩
     refine ite2 (fun h4=>?_) (fun h4=>?_)
     . have h5:fam<0:=by simpa using h4
       refine⟨_,rfl,rfl,_,rfl,?_⟩
       refine ite2 (fun h6=>?_) (fun h6=>?_)
       . have h7:w.length=1:=by
          have:(w.length:Int)=1:=by simpa using h6
          omega
         have e:Az w fam=[[],[]]:=by unfold Az;rw [if_neg hf,if_neg h3,if_pos h5,if_pos h7]
         rw [e] at k
         refine⟨Nat.zero_le _,fun p1 hp1=>⟨Nat.zero_le _,fun p2 hp2=>⟨Bh (by simp),fun p hp=>?_⟩⟩⟩
         have s1:Same H (upd H p1 (.tup [])):=Same.new hp1
         have s2:Same (upd H p1 (.tup [])) (upd (upd H p1 (.tup [])) p2 (.tup [])):=Same.new hp2
         have s3:Same (upd (upd H p1 (.tup [])) p2 (.tup [])) (upd (upd (upd H p1 (.tup [])) p2 (.tup [])) p (.lst [.ref p1,.ref p2])):=Same.new hp
         have hp0:H p=none:=(s1.trans s2).free hp
         refine k p _ _ hp0 ((s1.trans s2).trans s3) Ae ?_
         have t1:TI K _ (.ref p1) []:=TI.mk (.of (s3 _ _ (s2 _ _ Ae)))
         have t2:TI K _ (.ref p2) []:=TI.mk (.of (s3 _ _ Ae))
         exact ⟨_,_,rfl,t1,_,_,rfl,t2,rfl⟩
       . have h7:¬w.length=1:=by
          have:¬(w.length:Int)=1:=by simpa using h6
          omega
         have e:Az w fam=w.map fun l=>[l]:=by unfold Az;rw [if_neg hf,if_neg h3,if_pos h5,if_neg h7]
         rw [e] at k
         refine⟨_,rfl,aw,rfl,⟨_,hq⟩,fun D hD=>?_⟩
         refine Ta (xs:=w.map V.int) (fun i ys τ H1=>i<=w.length/\Same H H1/\H1 D=some (.lst ys)/\Reps K H1 ys (((w.take i).map fun l=>[l]).map tI)/\∃ o,τ=[o])
          ⟨Nat.zero_le _,Same.new hD,Ae,rfl,none,rfl⟩ (fun i ys τ H1 _ ⟨_,s1,_⟩=>s1.seqT hq) ?_ ?_
         . rintro i x ys τ H1 hx ⟨hi1,s1,hD1,r1,o,rfl⟩
           have hi2:i<w.length:=by have:=(List.getElem?_eq_some_iff.mp hx).1;simpa using this
           have hx2:x=.int w[i]:=by
            rw [List.getElem?_map,List.getElem?_eq_getElem hi2] at hx
            simpa using hx.symm
           subst hx2
           refine⟨_,rfl,Bh (by simp),fun p hp=>?_⟩
           have s2:Same H1 (upd H1 p (.tup [.int w[i]])):=Same.new hp
           have hD4:=s2 _ _ hD1
           have t4:TI K (upd H1 p (.tup [.int w[i]])) (.ref p) [w[i]]:=TI.mk (.of Ae)
           have r4:=Reps.same s2 r1
           have hyl:ys.length=i:=by have:=r1.length;simp at this;omega
           refine⟨hD4,Du (by omega),by omega,(s1.trans s2).turn hD,Ae,?_,_,rfl⟩
           have e2:(w.take (i+1)).map (fun l=>[l])=(w.take i).map (fun l=>[l])++[[w[i]]]:=by
            rw [List.take_succ,List.getElem?_eq_getElem hi2,List.map_append]
            rfl
           rw [e2]
           exact Ht hD4 r4 t4
         . rintro ys τ H1 ⟨_,s1,hD1,r1,_⟩
           rw [hlen,List.take_length] at r1
           exact k D ys H1 hD s1 hD1 r1
     have h5:¬fam<0:=by simpa using h4
     have hpos:0<fam:=by omega
     have e:Az w fam=w.drop 1::((List.range (w.length-1)).map fun i=>w.take i++[(w.getD i 0+w.getD (i+1) 0)%fam]++w.drop (i+2))++[w.take (w.length-1)]:=by
      unfold Az;rw [if_neg hf,if_neg h3,if_neg h5]
     rw [e] at k
     refine⟨_,rfl,_,rfl,aw,_,rfl,hq,?_,fun p1 H1 s1 q1=>⟨Bh (by simp),fun D hD=>?_⟩⟩
     . rw [hlen];rintro ⟨z,_⟩
       rw [show (1:Int)=((1:Nat):Int) by omega,HT.sIx_nat] at z
       omega
     rw [show (1:Int)=((1:Nat):Int) by omega,Yp] at q1
     have hD0:H D=none:=s1.free hD
     have s2:Same H1 (upd H1 D (.lst [.ref p1])):=Same.new hD
     have t1:TI K (upd H1 D (.lst [.ref p1])) (.ref p1) (w.drop 1):=by
      refine TI.mk ?_
      rw [List.map_drop]
      exact s2.seqT q1
     have hn:((w.length:Int)-1).toNat=w.length-1:=by omega
     refine⟨_,rfl,_,_,rfl,rfl,_,rfl,by omega,by omega,C9 (lo:=0) (n:=((w.length:Int)-1).toNat)
      (fun i σ H2=>∃ (ys:List V) (o:Option V),σ=[some (.ref aw),some (.int fam),some (.int w.length),some (.ref D),o]/\Same H H2/\H2 D=some (.lst ys) ∧
        Reps K H2 ys ((w.drop 1::((List.range i).map fun i=>w.take i++[(w.getD i 0+w.getD (i+1) 0)%fam]++w.drop (i+2))).map tI))
      ⟨_,none,rfl,s1.trans s2,Ae,⟨_,_,rfl,t1,rfl⟩⟩ ?_ ?_⟩
     . rintro i σ H2 hi ⟨ys,o,rfl,sH,hD2,r2⟩
       rw [hn] at hi
       have hq2:SqT K H2 aw (w.map V.int):=sH.seqT hq
       have c0:((0:Int)+(i:Int))=((i:Nat):Int):=by omega
       have c1:((0:Int)+(i:Int)+1)=((i+1:Nat):Int):=by omega
       have c2:((0:Int)+(i:Int)+2)=((i+2:Nat):Int):=by omega
       have at0:atI (w.map V.int) ((0:Int)+(i:Int))=some (.int (w.getD i 0)):=by
        rw [c0]
        refine Ei ?_
        rw [List.getElem?_map,List.getElem?_eq_getElem (by omega)]
        simp [show i<w.length by omega]
       have at1:atI (w.map V.int) ((0:Int)+(i:Int)+1)=some (.int (w.getD (i+1) 0)):=by
        rw [c1]
        refine Ei ?_
        rw [List.getElem?_map,List.getElem?_eq_getElem (by omega)]
        simp [show i+1<w.length by omega]
       refine⟨_,rfl,.inl ⟨rfl,_,SqL.of hD2⟩,?_⟩
       refine⟨_,rfl,_,rfl,_,rfl,aw,_,rfl,hq2,?_,fun pa Ha sa qa=>?_⟩
       . rw [hlen];rintro ⟨_,z⟩
         rw [c0,HT.sIx_nat] at z
         omega
       rw [c0,Qa] at qa
       refine⟨_,rfl,_,rfl,aw,_,_,_,rfl,rfl,sa.seqT hq2,at0,_,rfl,_,rfl,_,_,rfl,rfl,aw,_,_,_,rfl,rfl,sa.seqT hq2,at1,_,_,rfl,rfl,_,rfl,_,_,rfl,rfl,hpos,Bh (by simp),fun pb hb=>?_⟩
       have sb:Same Ha (upd Ha pb (.tup [.int ((w.getD i 0+w.getD (i+1) 0)%fam)])):=Same.new hb
       refine⟨pa,pb,_,_,rfl,rfl,sb.seqT qa,.of Ae,Bh (by simp;omega),fun pc Hc sc qc=>?_⟩
       have sac:=(sa.trans sb).trans sc
       refine⟨_,rfl,_,rfl,_,_,rfl,rfl,_,rfl,aw,_,rfl,sac.seqT hq2,?_,fun pd Hd sd qd=>?_⟩
       . rw [hlen];rintro ⟨z,_⟩
         rw [c2,HT.sIx_nat] at z
         omega
       rw [c2,Yp] at qd
       refine⟨pc,pd,_,_,rfl,rfl,sd.seqT qc,qd,Bh (by simp;omega),fun pe He se qe=>?_⟩
       have sall:=(sac.trans sd).trans se
       have hDe:=sall _ _ hD2
       have te:TI K He (.ref pe) (w.take i++[(w.getD i 0+w.getD (i+1) 0)%fam]++w.drop (i+2)):=by
        refine TI.mk ?_
        simp only [List.map_append,List.map_take,List.map_drop,List.map_cons,List.map_nil]
        exact qe
       have hyl:ys.length=i+1:=by have:=r2.length;simpa using this
       refine⟨D,_,_,rfl,rfl,hDe,Du (by omega),?_⟩
       refine⟨_,_,rfl,(sH.trans sall).turn hD0,Ae,?_⟩
       have e3:(w.drop 1::((List.range (i+1)).map fun i=>w.take i++[(w.getD i 0+w.getD (i+1) 0)%fam]++w.drop (i+2))) =
        (w.drop 1::((List.range i).map fun i=>w.take i++[(w.getD i 0+w.getD (i+1) 0)%fam]++w.drop (i+2)))++[w.take i++[(w.getD i 0+w.getD (i+1) 0)%fam]++w.drop (i+2)]:=by
        rw [List.range_succ,List.map_append]
        rfl
       rw [e3]
       exact Ht hDe (Reps.same sall r2) te
     . rintro σ H2 ⟨ys,o,rfl,sH,hD2,r2⟩
       rw [hn] at r2
       have hq2:SqT K H2 aw (w.map V.int):=sH.seqT hq
       have c1:((w.length:Int)-1)=((w.length-1:Nat):Int):=by omega
       refine⟨_,rfl,.inl ⟨rfl,_,SqL.of hD2⟩,_,rfl,_,rfl,_,_,rfl,rfl,_,rfl,aw,_,rfl,hq2,?_,fun pa Ha sa qa=>?_⟩
       . rw [hlen];rintro ⟨_,z⟩
         rw [c1,HT.sIx_nat] at z
         omega
       rw [c1,Qa] at qa
       have hDa:=sa _ _ hD2
       have ta:TI K Ha (.ref pa) (w.take (w.length-1)):=by
        refine TI.mk ?_
        rw [List.map_take]
        exact qa
       have hyl:ys.length=w.length:=by have:=r2.length;simp at this;omega
       refine⟨D,_,_,rfl,rfl,hDa,Du (by omega),?_⟩
       refine⟨_,rfl,?_⟩
       exact k D _ _ hD0 ((sH.trans sa).turn hD0) Ae (Ht hDa (Reps.same sa r2) ta)
abbrev Eb:Stmt:=top 57
theorem Zc:FnScope ["_law_cell","_law_family","_law_letters","_law_size","_law_base","_law_word","_law_k"] ["_law_cell","_law_family","_law_letters"] (Aj Eb):=⟨rfl,rfl,rfl,by decide +kernel,rfl,by decide +kernel,by decide +kernel⟩
theorem By:(["_law_cell","_law_family","_law_letters","_law_size","_law_base","_law_word","_law_k"]:List Str).Nodup:=by decide +kernel
theorem Zl {f:Addr}{fd:FuncData} (F:Fun K "_law_word_by" "_law_word_by" Eb f fd) (T:Txt K mg Al Ap Au Aw Af As Ao At A3 Ax Ag Ad Av A2 Ar Aq Ac) :FnOk P w K mg base CX0 1 f fd ["_law_cell","_law_family","_law_letters"] (Jl K):=by
 refine F.ok Zc (fun vs H Q E h=>?_) (fun Bw A outer s H vs Q E hr h=>?_)
 . obtain⟨c,fam,letters,rfl,hl0,hl1,hf,k⟩:=h
   rfl
 . obtain⟨c,fam,letters,rfl,hl0,hl1,hf,k⟩:=h
   refine⟨_,(Ai (A5 (i:=0) By (by rfl) (by first | exact Or.inl rfl | exact Or.inr rfl) (Bf Br (pv 0) Ak))
    (Ai (A5 (i:=3) By (by rfl) (by first | exact Or.inl rfl | exact Or.inr rfl) (Bf Br (pv 0) Ak))
    (Ai (A5 (i:=4) By (by rfl) (by first | exact Or.inl rfl | exact Or.inr rfl) (pv 2))
    (Ai (Bu (A7 Dk (pv 1) Ak (A9 _)) (Am (A5 (i:=3) By (by rfl) (by first | exact Or.inl rfl | exact Or.inr rfl) (Bf Ew (pv 3) Ak))) Be)
    (Ai (Bu (PW.pt (Oy (A7 Nw (pv 1) Ak (A9 _)) (Ly (A7 v7 (pv 3) Ak (A9 _))))) (Am (A5 (i:=3) By (by rfl) (by first | exact Or.inl rfl | exact Or.inr rfl) Ak)) Be)
    (Ai (Bu (A7 Ba1 (pv 1) Ak (A9 _)) (Am (A5 (i:=4) By (by rfl) (by first | exact Or.inl rfl | exact Or.inr rfl) (pv 1))) Be)
    (Ai (A5 (i:=0) By (by rfl) (by first | exact Or.inl rfl | exact Or.inr rfl) (Bf C8 (pv 0) Ak))
    (Ai (A5 (i:=5) By (by rfl) (by first | exact Or.inl rfl | exact Or.inr rfl) (Cj Ah))
    (Ai (D1 PassesOwn.never rfl (Cu (by rfl) T.n_range (Aa (pv 3) Ah)) (Bg (i:=6) By (by rfl) (by first | exact Or.inl rfl | exact Or.inr rfl)) (Ai (A5 (i:=5) By (by rfl) (by first | exact Or.inl rfl | exact Or.inr rfl) (Bf (Mv (K:=K)) (pv 5) (Cj (Aa (Bf Br (pv 0) (pv 4)) Ah))))
    (Am (A5 (i:=0) By (by rfl) (by first | exact Or.inl rfl | exact Or.inr rfl) (Bf C8 (pv 0) (pv 4))))))
    (Am (Bb (pv 5)))))))))))),?_⟩
   have m1:0<=c%1000000%4:=Int.emod_nonneg _ (by decide)
   have m2:c%1000000%4<4:=Int.emod_lt_of_pos _ (by decide)
   refine⟨_,rfl,_,_,rfl,rfl,(by show (0:Int)<1000000;decide),?_⟩
   refine⟨_,rfl,_,_,rfl,rfl,(by show (0:Int)<4;decide),?_⟩
   refine⟨_,rfl,?_⟩
   have fork:(fam=0)\/(fam<0/\c%1000000%4=1)\/(fam<0/\¬c%1000000%4=1)\/0<fam:=by omega
   have nofam:¬fam=0->¬(decide (V.int fam=V.int 0)=true):=fun z q=>z (by simpa using q)
   have isfam:fam=0->decide (V.int fam=V.int 0)=true:=fun z=>by simp [z]
   have hb0:0<letters:=hl0
   have hb1:letters<1073741824:=by omega
   rcases fork with hz|⟨hz,h1⟩|⟨hz,h1⟩ | hz
   . refine⟨_,rfl,rfl,_,rfl,?_⟩
     refine ifP (isfam hz) ?_
     refine⟨_,rfl,_,_,rfl,rfl,?_⟩
     refine⟨_,rfl,_,_,rfl,rfl,_,rfl,?_⟩
     refine ifN (by simp;omega) ?_
     refine ifN (by simp) ?_
     refine⟨_,rfl,_,_,rfl,rfl,_,rfl,?_⟩
     refine ifN (by simp;omega) ?_
     have hW:∀ w:List Int,w.length=(c%1000000%4+1).toNat->Word fam w:=fun w e=>.inl ⟨hz,by omega,by omega⟩
     refine⟨_,rfl,_,_,rfl,rfl,⟨by decide,by decide⟩,Nat.zero_le _,fun p0 hp0=>?_⟩
     refine⟨_,rfl,_,rfl,by omega,by omega,?_⟩
     refine C9 (lo:=0) (n:=(c%1000000%4+1:Int).toNat)
      (fun i σ H2=>∃ (c':Int) (v:V) (o:Option V) (w:List Int),σ=[some (.int c'),some (.int fam),some (.int letters),some (.int (c%1000000%4+1)),some (.int letters),some v,o]/\Same H H2/\TI K H2 v w/\w.length=i)
      ⟨_,_,none,[],rfl,Same.new hp0,TI.mk (.of Ae),rfl⟩ ?_ ?_
     . rintro i σ H2 hi ⟨c',v,o,w,rfl,s2,tv,hwl⟩
       obtain⟨a,rfl,hqa⟩:=tv.sq
       refine⟨_,rfl,_,rfl,_,rfl,_,_,rfl,rfl,hb0,Bh (by simp),fun pt hpt=>?_⟩
       have s3:Same H2 (upd H2 pt (.tup [.int (c'%letters)])):=Same.new hpt
       refine⟨a,pt,_,_,rfl,rfl,s3.seqT hqa,.of Ae,Bh (by simp;omega),fun p3 H3 s4 q3=>?_⟩
       refine⟨_,rfl,_,rfl,_,_,rfl,rfl,⟨hb0,hb1⟩,?_⟩
       refine⟨_,_,_,w++[c'%letters],rfl,(s2.trans s3).trans s4,TI.mk ?_,by simp [hwl]⟩
       rw [List.map_append]
       exact q3
     . rintro σ H2 ⟨c',v,o,w,rfl,s2,tv,hwl⟩
       exact ⟨_,rfl,k v H2 w s2 tv (hW w hwl)⟩
   . refine⟨_,rfl,rfl,_,rfl,?_⟩
     refine ifN (nofam (by omega)) ?_
     refine⟨_,rfl,_,_,rfl,rfl,_,rfl,?_⟩
     refine ifP (by simp;omega) ?_
     refine⟨_,rfl,rfl,_,rfl,?_⟩
     refine ifN (eqI h1) ?_
     refine⟨_,rfl,_,_,rfl,rfl,_,rfl,?_⟩
     refine ifN (by simp;omega) ?_
     have hW:∀ w:List Int,w.length=(c%1000000%4).toNat->Word fam w:=fun w e=>.inr (.inl ⟨hz,by omega⟩)
     refine⟨_,rfl,_,_,rfl,rfl,⟨by decide,by decide⟩,Nat.zero_le _,fun p0 hp0=>?_⟩
     refine⟨_,rfl,_,rfl,by omega,by omega,?_⟩
     refine C9 (lo:=0) (n:=(c%1000000%4:Int).toNat)
      (fun i σ H2=>∃ (c':Int) (v:V) (o:Option V) (w:List Int),σ=[some (.int c'),some (.int fam),some (.int letters),some (.int (c%1000000%4)),some (.int letters),some v,o]/\Same H H2/\TI K H2 v w/\w.length=i)
      ⟨_,_,none,[],rfl,Same.new hp0,TI.mk (.of Ae),rfl⟩ ?_ ?_
     . rintro i σ H2 hi ⟨c',v,o,w,rfl,s2,tv,hwl⟩
       obtain⟨a,rfl,hqa⟩:=tv.sq
       refine⟨_,rfl,_,rfl,_,rfl,_,_,rfl,rfl,hb0,Bh (by simp),fun pt hpt=>?_⟩
       have s3:Same H2 (upd H2 pt (.tup [.int (c'%letters)])):=Same.new hpt
       refine⟨a,pt,_,_,rfl,rfl,s3.seqT hqa,.of Ae,Bh (by simp;omega),fun p3 H3 s4 q3=>?_⟩
       refine⟨_,rfl,_,rfl,_,_,rfl,rfl,⟨hb0,hb1⟩,?_⟩
       refine⟨_,_,_,w++[c'%letters],rfl,(s2.trans s3).trans s4,TI.mk ?_,by simp [hwl]⟩
       rw [List.map_append]
       exact q3
     . rintro σ H2 ⟨c',v,o,w,rfl,s2,tv,hwl⟩
       exact ⟨_,rfl,k v H2 w s2 tv (hW w hwl)⟩
   . refine⟨_,rfl,rfl,_,rfl,?_⟩
     refine ifN (nofam (by omega)) ?_
     refine⟨_,rfl,_,_,rfl,rfl,_,rfl,?_⟩
     refine ifP (by simp;omega) ?_
     refine⟨_,rfl,rfl,_,rfl,?_⟩
     refine ifP (neI h1) ?_
     refine⟨_,rfl,_,_,rfl,rfl,_,rfl,?_⟩
     refine ifN (by simp;omega) ?_
     have hW:∀ w:List Int,w.length=(3:Int).toNat->Word fam w:=fun w e=>.inr (.inl ⟨hz,.inr (.inr e)⟩)
     refine⟨_,rfl,_,_,rfl,rfl,⟨by decide,by decide⟩,Nat.zero_le _,fun p0 hp0=>?_⟩
     refine⟨_,rfl,_,rfl,by omega,by omega,?_⟩
     refine C9 (lo:=0) (n:=(3:Int).toNat)
      (fun i σ H2=>∃ (c':Int) (v:V) (o:Option V) (w:List Int),σ=[some (.int c'),some (.int fam),some (.int letters),some (.int (3)),some (.int letters),some v,o]/\Same H H2/\TI K H2 v w/\w.length=i)
      ⟨_,_,none,[],rfl,Same.new hp0,TI.mk (.of Ae),rfl⟩ ?_ ?_
     . rintro i σ H2 hi ⟨c',v,o,w,rfl,s2,tv,hwl⟩
       obtain⟨a,rfl,hqa⟩:=tv.sq
       refine⟨_,rfl,_,rfl,_,rfl,_,_,rfl,rfl,hb0,Bh (by simp),fun pt hpt=>?_⟩
       have s3:Same H2 (upd H2 pt (.tup [.int (c'%letters)])):=Same.new hpt
       refine⟨a,pt,_,_,rfl,rfl,s3.seqT hqa,.of Ae,Bh (by simp;omega),fun p3 H3 s4 q3=>?_⟩
       refine⟨_,rfl,_,rfl,_,_,rfl,rfl,⟨hb0,hb1⟩,?_⟩
       refine⟨_,_,_,w++[c'%letters],rfl,(s2.trans s3).trans s4,TI.mk ?_,by simp [hwl]⟩
       rw [List.map_append]
       exact q3
     . rintro σ H2 ⟨c',v,o,w,rfl,s2,tv,hwl⟩
       exact ⟨_,rfl,k v H2 w s2 tv (hW w hwl)⟩
   . refine⟨_,rfl,rfl,_,rfl,?_⟩
     refine ifN (nofam (by omega)) ?_
     refine⟨_,rfl,_,_,rfl,rfl,_,rfl,?_⟩
     refine ifN (by simp;omega) ?_
     refine ifN (by simp) ?_
     refine⟨_,rfl,_,_,rfl,rfl,_,rfl,?_⟩
     refine ifP (by simp;omega) ?_
     refine⟨_,rfl,?_⟩
     have hW:∀ w:List Int,w.length=(c%1000000%4).toNat->Word fam w:=fun w e=>.inr (.inr ⟨hz,by omega⟩)
     have hb0:0<fam:=hz
     have hb1:fam<1073741824:=by omega
     refine⟨_,rfl,_,_,rfl,rfl,⟨by decide,by decide⟩,Nat.zero_le _,fun p0 hp0=>?_⟩
     refine⟨_,rfl,_,rfl,by omega,by omega,?_⟩
     refine C9 (lo:=0) (n:=(c%1000000%4:Int).toNat)
      (fun i σ H2=>∃ (c':Int) (v:V) (o:Option V) (w:List Int),σ=[some (.int c'),some (.int fam),some (.int letters),some (.int (c%1000000%4)),some (.int fam),some v,o]/\Same H H2/\TI K H2 v w/\w.length=i)
      ⟨_,_,none,[],rfl,Same.new hp0,TI.mk (.of Ae),rfl⟩ ?_ ?_
     . rintro i σ H2 hi ⟨c',v,o,w,rfl,s2,tv,hwl⟩
       obtain⟨a,rfl,hqa⟩:=tv.sq
       refine⟨_,rfl,_,rfl,_,rfl,_,_,rfl,rfl,hb0,Bh (by simp),fun pt hpt=>?_⟩
       have s3:Same H2 (upd H2 pt (.tup [.int (c'%fam)])):=Same.new hpt
       refine⟨a,pt,_,_,rfl,rfl,s3.seqT hqa,.of Ae,Bh (by simp;omega),fun p3 H3 s4 q3=>?_⟩
       refine⟨_,rfl,_,rfl,_,_,rfl,rfl,⟨hb0,hb1⟩,?_⟩
       refine⟨_,_,_,w++[c'%fam],rfl,(s2.trans s3).trans s4,TI.mk ?_,by simp [hwl]⟩
       rw [List.map_append]
       exact q3
     . rintro σ H2 ⟨c',v,o,w,rfl,s2,tv,hwl⟩
       exact ⟨_,rfl,k v H2 w s2 tv (hW w hwl)⟩
abbrev Gp:Stmt:=top 61
theorem Aj3:FnScope ["_law_cell","_law_primes"] ["_law_cell"] (Aj Gp):=⟨rfl,rfl,rfl,by decide +kernel,rfl,by decide +kernel,by decide +kernel⟩
theorem Am9:(["_law_cell","_law_primes"]:List Str).Nodup:=by decide +kernel
theorem Al0 {f:Addr}{fd:FuncData} (F:Fun K "_law_prime" "_law_prime" Gp f fd) (T:Txt K mg Al Ap Au Aw Af As Ao At A3 Ax Ag Ad Av A2 Ar Aq Ac) :FnOk P w K mg base CX0 1 f fd ["_law_cell"] (Lw K):=by
 refine F.ok Aj3 (fun vs H Q E h=>?_) (fun Bw A outer s H vs Q E hr h=>?_)
 . obtain⟨c,rfl,k⟩:=h
   rfl
 . obtain⟨c,rfl,k⟩:=h
   refine⟨_,(Ai (A82 (N':=["_law_n"]) (cap:=[none]) (xc:="_law_n") (i:=1) Am9 (by rfl) (by first | exact Or.inl rfl | exact Or.inr rfl) (by rfl) (by kernel_rfl) (fun _ _=>rfl) (fun _=>rfl) (Mq (by rfl) T.n_range (Aa Ak (Aa Ak Ah))) (fun _ _ _ _ _=>(Bg (i:=0) Br9 (by rfl) (by first | exact Or.inl rfl | exact Or.inr rfl))) (fun _ _ _ _ _=>(F9 (A7 Dk (A0 (Ay (K:=K)) (by rfl) T.n_len PySem.boot_len (Aa (Dj (N':=["_law_k","_law_n"]) (cap:=[none,some 0]) (by rfl) (by kernel_rfl) (Mq (by rfl) T.n_range (Aa Ak (Aa (pv 0) Ah))) (fun _ _ _ _=>(Bg (i:=0) Br8 (by rfl) (by first | exact Or.inl rfl | exact Or.inr rfl))) (fun _ _ _ _=>(F9 (A7 Dk (Bf Br (pv 1) (pv 0)) Ak (A9 _)))) (fun _ _ _ _=>(pv 0))) Ah)) Ak (A9 _)))) (fun _ _ _ _ _=>(pv 0)))
    (Ai (Bu (A7 Dk (Bf Br (pv 0) Ak) Ak (A9 _)) (Am (Bb (Bx (Bt (K:=K)) (pv 1) (Bf Br (Bf C8 (pv 0) Ak) Ak) (fun _ _=>rfl)))) Be)
    (Am (Bb (Bx (Bt (K:=K)) (pv 1) (Bf Br (Bf C8 (pv 0) Ak) Ak) (fun _ _=>rfl)))))),?_⟩
   refine A6 (fun σ' H'=>∃ (P:Addr),σ'=[some (.int c),some (.ref P)]/\Same H H'/\H' P=some (.lst ((prs 96).map V.int))) ?_ fun key=>?_
   rotate_left
   . refine⟨_,_,rfl,⟨by decide,by decide,by decide,by decide⟩,fun D hD=>?_⟩
     refine Fh (fun i ys τ H1=>i<=96/\Same H H1/\H1 D=some (.lst ys)/\ys=(prs i).map V.int/\∃ o,τ=[o])
      ⟨Nat.zero_le _,Same.new hD,Ae,rfl,none,rfl⟩ ?_ ?_
     . rintro i ys τ H1 hi ⟨_,s1,hD1,hys,o,rfl⟩
       have hi96:i<96:=hi
       refine⟨_,rfl,_,_,rfl,⟨by decide,by decide,by omega,by omega⟩,fun D2 hD2=>?_⟩
       refine Fh (fun j zs τ' H2=>j<=i/\Same H1 H2/\H2 D2=some (.lst zs)/\zs=(dvs (2+(i:Int)) j).map V.int/\∃ o,τ'=[o,some (.int (2+(i:Int)))])
        ⟨Nat.zero_le _,Same.new hD2,Ae,rfl,none,rfl⟩ ?_ ?_
       . rintro j zs τ' H2 hj ⟨_,s2,hD22,hzs,o',rfl⟩
         have hji:j<i:=by omega
         refine⟨_,rfl,_,rfl,_,_,rfl,rfl,(by show (0:Int)<2+(j:Int);omega),rfl,_,rfl,?_⟩
         have zl:zs.length<=j:=by rw [hzs,List.length_map];exact Bl9 ..
         refine ite2 (fun h1=>?_) (fun h1=>?_)
         . have h2:(2+(i:Int))%(2+(j:Int))=0:=by simpa using h1
           refine⟨_,rfl,hD22,Du (by omega),by omega,s2.turn hD2,Ae,?_,_,rfl⟩
           rw [Ag1,if_pos h2,List.map_append,hzs]
           rfl
         . have h2:¬(2+(i:Int))%(2+(j:Int))=0:=by simpa using h1
           refine⟨by omega,s2,hD22,?_,_,rfl⟩
           rw [Ag1,if_neg h2]
           exact hzs
       . rintro zs τ' H2 ⟨_,s2,hD22,hzs,_⟩
         refine⟨D2,zs,rfl,.inl (.of hD22),rfl,_,rfl,?_⟩
         have hD3:=s2 _ _ hD1
         have yl:ys.length<=i:=by rw [hys,List.length_map];exact Bg9 ..
         have hz:(zs.length=0)↔isP (2+(i:Int))=true:=by
          rw [←Bb8,hzs,List.length_map,show (2+(i:Int)-2).toNat=i by omega]
         refine ite2 (fun h1=>?_) (fun h1=>?_)
         . have h2:zs.length=0:=by
            have:(zs.length:Int)=0:=by simpa using h1
            omega
           refine⟨_,rfl,hD3,Du (by omega),by omega,(s1.trans s2).turn hD,Ae,?_,_,rfl⟩
           rw [Ae9,if_pos (hz.mp h2),List.map_append,hys]
           rfl
         . have h2:¬zs.length=0:=by
            intro z
            apply h1
            simp [z]
           refine⟨by omega,s1.trans s2,hD3,?_,_,rfl⟩
           rw [Ae9,if_neg (fun z=>h2 (hz.mpr z))]
           exact hys
     . rintro ys τ H1 ⟨_,s1,hD1,hys,_⟩
       refine key _ _ ⟨D,rfl,s1,?_⟩
       rw [hD1,hys]
       rfl
   rintro _ H1 ⟨P,rfl,s1,hP⟩
   have at25:∀ x:Int,0<=x->x<25->∃ p:Int,atI ((prs 96).map V.int) x=some (.int p)/\p∈prs 96:=fun x c0 c1=>by
    obtain⟨j,rfl⟩:=Int.eq_ofNat_of_zero_le c0
    have hj25:j<(prs 96).length:=by rw [Bp9];omega
    refine⟨(prs 96)[j],?_,List.getElem_mem hj25⟩
    exact Ei (j:=j) (by rw [List.getElem?_map,List.getElem?_eq_getElem hj25];rfl)
   have fin:∀ p:Int,p∈prs 96->Q (.int p) H1:=fun p hp=>by
    obtain⟨hpr,hp98⟩:=Bg8 hp
    exact k p H1 s1 hpr hp98
   refine⟨_,rfl,_,_,rfl,rfl,(by show (0:Int)<2;decide),rfl,_,rfl,?_⟩
   refine ite2 (fun _=>?_) (fun _=>?_)
   . obtain⟨p,hat,hp⟩:=at25 (c / 2%4) (Int.emod_nonneg _ (by decide)) (by have:=Int.emod_lt_of_pos (c / 2) (show (0:Int)<4 by decide);omega)
     exact ⟨_,rfl,_,rfl,_,_,rfl,rfl,⟨by decide,by decide⟩,_,_,rfl,rfl,(by show (0:Int)<4;decide),P,_,_,_,rfl,rfl,.of hP,hat,fin p hp⟩
   . obtain⟨p,hat,hp⟩:=at25 (c / 2%25) (Int.emod_nonneg _ (by decide)) (Int.emod_lt_of_pos (c / 2) (show (0:Int)<25 by decide))
     exact ⟨_,rfl,_,rfl,_,_,rfl,rfl,⟨by decide,by decide⟩,_,_,rfl,rfl,(by show (0:Int)<25;decide),P,_,_,_,rfl,rfl,.of hP,hat,fin p hp⟩
abbrev Gr:Stmt:=top 62
theorem Aj5:FnScope ["_law_e","_law_marks_here"] ["_law_e"] (Aj Gr):=⟨rfl,rfl,rfl,by decide +kernel,rfl,by decide +kernel,by decide +kernel⟩
theorem Ku:(["_law_e","_law_marks_here"]:List Str).Nodup:=by decide +kernel
theorem Al2 {f:Addr}{fd:FuncData} (F:Fun K "_law_marks" "_law_marks" Gr f fd) (T:Txt K mg Al Ap Au Aw Af As Ao At A3 Ax Ag Ad Av A2 Ar Aq Ac) :Bn3 P w K mg base 1 f fd ["_law_e"] (Ji K Ap Au Aw Af As Ao At A3 Ax Ag Ad Av A2 Ar Aq):=by
 refine F.okN Aj5 (fun vs H Q E h=>?_) (fun Bw A outer s H vs Q E hr h=>?_)
 . obtain⟨e,C,n,rfl,he,hm,k⟩:=h
   rfl
 . obtain⟨e,C,n,rfl,he,hm,k⟩:=h
   refine⟨_,(Ai (A5 (i:=1) Ku (by rfl) (by first | exact Or.inl rfl | exact Or.inr rfl) (Cl (Aa (A0 (Bp (K:=K)) (by rfl) T.n_isinstance A4 (Aa (pv 0) (Aa (Jr (v:=.ty "ValueError") rfl T.n_ValueError Py rfl) Ah))) (Aa (A0 (Bp (K:=K)) (by rfl) T.n_isinstance A4 (Aa (pv 0) (Aa (Cr (v:=.ref Ap) (by rfl) T.m_NoShape rfl) Ah))) (Aa (A0 (Bp (K:=K)) (by rfl) T.n_isinstance A4 (Aa (pv 0) (Aa (Cr (v:=.ref Au) (by rfl) T.m_NoText rfl) Ah))) (Aa (A0 (Bp (K:=K)) (by rfl) T.n_isinstance A4 (Aa (pv 0) (Aa (Cr (v:=.ref Aw) (by rfl) T.m_NoName rfl) Ah))) Ah))))))
    (Ai (A5 (i:=1) Ku (by rfl) (by first | exact Or.inl rfl | exact Or.inr rfl) (Bf (Fp (K:=K)) (pv 1) (Cl (Aa (A0 (Bp (K:=K)) (by rfl) T.n_isinstance A4 (Aa (pv 0) (Aa (Cr (v:=.ref Af) (by rfl) T.m_NoLevel rfl) Ah))) (Aa (A0 (Bp (K:=K)) (by rfl) T.n_isinstance A4 (Aa (pv 0) (Aa (Cr (v:=.ref As) (by rfl) T.m_NoChain rfl) Ah))) (Aa (A0 (Bp (K:=K)) (by rfl) T.n_isinstance A4 (Aa (pv 0) (Aa (Cr (v:=.ref Ao) (by rfl) T.m_NoTable rfl) Ah))) Ah))))))
    (Ai (A5 (i:=1) Ku (by rfl) (by first | exact Or.inl rfl | exact Or.inr rfl) (Bf (Fp (K:=K)) (pv 1) (Cl (Aa (A0 (Bp (K:=K)) (by rfl) T.n_isinstance A4 (Aa (pv 0) (Aa (Cr (v:=.ref At) (by rfl) T.m_NoTurn rfl) Ah))) (Aa (A0 (Bp (K:=K)) (by rfl) T.n_isinstance A4 (Aa (pv 0) (Aa (Cr (v:=.ref A3) (by rfl) T.m_NoMap rfl) Ah))) (Aa (A0 (Bp (K:=K)) (by rfl) T.n_isinstance A4 (Aa (pv 0) (Aa (Cr (v:=.ref Ax) (by rfl) T.m_NoGlue rfl) Ah))) (Aa (A0 (Bp (K:=K)) (by rfl) T.n_isinstance A4 (Aa (pv 0) (Aa (Cr (v:=.ref Ag) (by rfl) T.m_NoPrime rfl) Ah))) Ah)))))))
    (Ai (A5 (i:=1) Ku (by rfl) (by first | exact Or.inl rfl | exact Or.inr rfl) (Bf (Fp (K:=K)) (pv 1) (Cl (Aa (A0 (Bp (K:=K)) (by rfl) T.n_isinstance A4 (Aa (pv 0) (Aa (Cr (v:=.ref Ad) (by rfl) T.m_NoStage rfl) Ah))) (Aa (A0 (Bp (K:=K)) (by rfl) T.n_isinstance A4 (Aa (pv 0) (Aa (Cr (v:=.ref Av) (by rfl) T.m_NoPair rfl) Ah))) (Aa (A0 (Bp (K:=K)) (by rfl) T.n_isinstance A4 (Aa (pv 0) (Aa (Cr (v:=.ref A2) (by rfl) T.m_NoRow rfl) Ah))) Ah))))))
    (Am (Bb (Bf (Fp (K:=K)) (pv 1) (Cl (Aa (A0 (Bp (K:=K)) (by rfl) T.n_isinstance A4 (Aa (pv 0) (Aa (Cr (v:=.ref Ar) (by rfl) T.m_NoPiece rfl) Ah))) (Aa (A0 (Bp (K:=K)) (by rfl) T.n_isinstance A4 (Aa (pv 0) (Aa (Cr (v:=.ref Aq) (by rfl) T.m_NoRound rfl) Ah))) Ah)))))))))),?_⟩
   refine A6 (fun σ' H'=>∃ M:Addr,σ'=[some (.ref e),some (.ref M)]/\Same H H'/\H' M=some (.lst [.bl true,.bl (decide (1=n)),.bl (decide (2=n)),.bl (decide (3=n))])) ?_ fun key=>?_
   rotate_left
   . exact ⟨_,rfl,e,C,_,_,_,rfl,rfl,Bf4,he,hm.x,hm.v,_,rfl,e,C,_,_,_,rfl,rfl,Cq,he,hm.x,hm.i 0 _ rfl,_,rfl,e,C,_,_,_,rfl,rfl,Cq,he,hm.x,hm.i 1 _ rfl,_,rfl,e,C,_,_,_,rfl,rfl,Cq,he,hm.x,hm.i 2 _ rfl,Bh (by simp),fun M hM=>key _ _ ⟨M,rfl,Same.new hM,Ae⟩⟩
   rintro _ H0 ⟨M0,rfl,s0,hM0⟩
   refine A6 (fun σ' H'=>∃ M:Addr,σ'=[some (.ref e),some (.ref M)]/\Same H H'/\H' M=some (.lst [.bl true,.bl (decide (1=n)),.bl (decide (2=n)),.bl (decide (3=n)),.bl (decide (4=n)),.bl (decide (5=n)),.bl (decide (6=n))])) ?_ fun key=>?_
   rotate_left
   . refine⟨_,rfl,_,rfl,e,C,_,_,_,rfl,rfl,Cq,(s0 _ _ he),hm.x,hm.i 3 _ rfl,_,rfl,e,C,_,_,_,rfl,rfl,Cq,(s0 _ _ he),hm.x,hm.i 4 _ rfl,_,rfl,e,C,_,_,_,rfl,rfl,Cq,(s0 _ _ he),hm.x,hm.i 5 _ rfl,Bh (by simp),fun N hN=>?_⟩
     have sG1:Same H0 (upd H0 N (.lst [.bl (decide (4=n)),.bl (decide (5=n)),.bl (decide (6=n))])):=Same.new hN
     have eG1:upd H0 N (.lst [.bl (decide (4=n)),.bl (decide (5=n)),.bl (decide (6=n))]) N=some (.lst [.bl (decide (4=n)),.bl (decide (5=n)),.bl (decide (6=n))]):=Ae
     generalize upd H0 N (.lst [.bl (decide (4=n)),.bl (decide (5=n)),.bl (decide (6=n))])=G1 at sG1 eG1 ⊢
     exact ⟨M0,N,_,_,rfl,rfl,.of (sG1 _ _ hM0),.of eG1,Bh (by simp),fun M hM=>key _ _ ⟨M,rfl,(s0.trans sG1).trans (Same.new hM),Ae⟩⟩
   rintro _ H1 ⟨M1,rfl,s1,hM1⟩
   refine A6 (fun σ' H'=>∃ M:Addr,σ'=[some (.ref e),some (.ref M)]/\Same H H'/\H' M=some (.lst [.bl true,.bl (decide (1=n)),.bl (decide (2=n)),.bl (decide (3=n)),.bl (decide (4=n)),.bl (decide (5=n)),.bl (decide (6=n)),.bl (decide (7=n)),.bl (decide (8=n)),.bl (decide (9=n)),.bl (decide (10=n))])) ?_ fun key=>?_
   rotate_left
   . refine⟨_,rfl,_,rfl,e,C,_,_,_,rfl,rfl,Cq,(s1 _ _ he),hm.x,hm.i 6 _ rfl,_,rfl,e,C,_,_,_,rfl,rfl,Cq,(s1 _ _ he),hm.x,hm.i 7 _ rfl,_,rfl,e,C,_,_,_,rfl,rfl,Cq,(s1 _ _ he),hm.x,hm.i 8 _ rfl,_,rfl,e,C,_,_,_,rfl,rfl,Cq,(s1 _ _ he),hm.x,hm.i 9 _ rfl,Bh (by simp),fun N hN=>?_⟩
     have sG1:Same H1 (upd H1 N (.lst [.bl (decide (7=n)),.bl (decide (8=n)),.bl (decide (9=n)),.bl (decide (10=n))])):=Same.new hN
     have eG1:upd H1 N (.lst [.bl (decide (7=n)),.bl (decide (8=n)),.bl (decide (9=n)),.bl (decide (10=n))]) N=some (.lst [.bl (decide (7=n)),.bl (decide (8=n)),.bl (decide (9=n)),.bl (decide (10=n))]):=Ae
     generalize upd H1 N (.lst [.bl (decide (7=n)),.bl (decide (8=n)),.bl (decide (9=n)),.bl (decide (10=n))])=G1 at sG1 eG1 ⊢
     exact ⟨M1,N,_,_,rfl,rfl,.of (sG1 _ _ hM1),.of eG1,Bh (by simp),fun M hM=>key _ _ ⟨M,rfl,(s1.trans sG1).trans (Same.new hM),Ae⟩⟩
   rintro _ H2 ⟨M2,rfl,s2,hM2⟩
   refine A6 (fun σ' H'=>∃ M:Addr,σ'=[some (.ref e),some (.ref M)]/\Same H H'/\H' M=some (.lst [.bl true,.bl (decide (1=n)),.bl (decide (2=n)),.bl (decide (3=n)),.bl (decide (4=n)),.bl (decide (5=n)),.bl (decide (6=n)),.bl (decide (7=n)),.bl (decide (8=n)),.bl (decide (9=n)),.bl (decide (10=n)),.bl (decide (11=n)),.bl (decide (12=n)),.bl (decide (13=n))])) ?_ fun key=>?_
   rotate_left
   . refine⟨_,rfl,_,rfl,e,C,_,_,_,rfl,rfl,Cq,(s2 _ _ he),hm.x,hm.i 10 _ rfl,_,rfl,e,C,_,_,_,rfl,rfl,Cq,(s2 _ _ he),hm.x,hm.i 11 _ rfl,_,rfl,e,C,_,_,_,rfl,rfl,Cq,(s2 _ _ he),hm.x,hm.i 12 _ rfl,Bh (by simp),fun N hN=>?_⟩
     have sG1:Same H2 (upd H2 N (.lst [.bl (decide (11=n)),.bl (decide (12=n)),.bl (decide (13=n))])):=Same.new hN
     have eG1:upd H2 N (.lst [.bl (decide (11=n)),.bl (decide (12=n)),.bl (decide (13=n))]) N=some (.lst [.bl (decide (11=n)),.bl (decide (12=n)),.bl (decide (13=n))]):=Ae
     generalize upd H2 N (.lst [.bl (decide (11=n)),.bl (decide (12=n)),.bl (decide (13=n))])=G1 at sG1 eG1 ⊢
     exact ⟨M2,N,_,_,rfl,rfl,.of (sG1 _ _ hM2),.of eG1,Bh (by simp),fun M hM=>key _ _ ⟨M,rfl,(s2.trans sG1).trans (Same.new hM),Ae⟩⟩
   rintro _ H3 ⟨M3,rfl,s3,hM3⟩
   refine⟨_,rfl,_,rfl,e,C,_,_,_,rfl,rfl,Cq,(s3 _ _ he),hm.x,hm.i 13 _ rfl,_,rfl,e,C,_,_,_,rfl,rfl,Cq,(s3 _ _ he),hm.x,hm.i 14 _ rfl,Bh (by simp),fun N hN=>?_⟩
   have sG1:Same H3 (upd H3 N (.lst [.bl (decide (14=n)),.bl (decide (15=n))])):=Same.new hN
   have eG1:upd H3 N (.lst [.bl (decide (14=n)),.bl (decide (15=n))]) N=some (.lst [.bl (decide (14=n)),.bl (decide (15=n))]):=Ae
   generalize upd H3 N (.lst [.bl (decide (14=n)),.bl (decide (15=n))])=G1 at sG1 eG1 ⊢
   exact ⟨M3,N,_,_,rfl,rfl,.of (sG1 _ _ hM3),.of eG1,Bh (by simp),fun M hM=>k M _ ((s3.trans sG1).trans (Same.new hM)) Ae⟩
abbrev Hq:Stmt:=top 63
theorem At6:FnScope ["_law_at"] ["_law_at"] (Aj Hq):=⟨rfl,rfl,rfl,by decide +kernel,rfl,by decide +kernel,by decide +kernel⟩
theorem Aw4 {f:Addr}{fd:FuncData} (F:Fun K "_law_only" "_law_only" Hq f fd) (T:Txt K mg Al Ap Au Aw Af As Ao At A3 Ax Ag Ad Av A2 Ar Aq Ac) :FnOk P w K mg base CX0 1 f fd ["_law_at"] (Mm K):=by
 refine F.ok At6 (fun vs H Q E h=>?_) (fun Bw A outer s H vs Q E hr h=>?_)
 . obtain⟨n,rfl,k⟩:=h
   rfl
 . obtain⟨n,rfl,k⟩:=h
   have hu8:(A.deeper (PyProof.Rows.envOfC "_law_only" (Aj Hq) s.heap.objs.size f Bw)).units+8<cLine:=by have:=hr.units;omega
   refine⟨_,(Am (Bb (Dj (N':=["_law_k","_law_at"]) (cap:=[none,some 0]) (by rfl) (by kernel_rfl) (Cu (by rfl) T.n_range (Aa Ak Ah)) (fun _ _ _ _=>(Bg (i:=0) Br7 (by rfl) (by first | exact Or.inl rfl | exact Or.inr rfl))) (fun _ _ _ _=>Fl) (fun _ _ _ _=>(B8 (Bk2 (K:=K) hu8) (pv 0) (Cj (Aa Ak (Aa (pv 1) Ah))) rfl))))),?_⟩
   refine⟨_,rfl,by decide,by decide,fun D hD=>?_⟩
   refine Mg (n:=16) (fun j ys τ H1=>Same H H1/\H1 D=some (.lst ys)/\j<=16/\ys=((List.range j).map fun (k:Nat)=>(nums [0,n]).any fun e=>eqD e (.int (k:Int))).map V.bl/\∃ o,τ=[o,some (.int n)]) ⟨Same.new hD,Ae,Nat.zero_le _,rfl,none,rfl⟩ ?_ ?_
   . rintro j ys τ H1 hj ⟨s1,hD1,hj16,hys,o,rfl⟩
     refine⟨_,rfl,_,rfl,Bh (by simp),fun T1 hT1=>?_⟩
     have sT:Same H1 (upd H1 T1 (.tup [.int 0,.int n])):=Same.new hT1
     refine⟨.int (0+(j:Int)),nums [0,n],rfl,.inr ⟨T1,_,rfl,.of Ae,Fk.mpr rfl⟩,(by rw [Ka];decide),?_⟩
     rw [if_neg (by simp)]
     refine⟨sT _ _ hD1,Du (by rw [hys,List.length_map,List.length_map,List.length_range];omega),(s1.trans sT).turn hD,Ae,by omega,?_,_,rfl⟩
     rw [hys,List.range_succ,List.map_append,List.map_append,Int.zero_add]
     rfl
   . rintro ys τ H1 ⟨s1,hD1,_,hys,_⟩
     rw [hys] at hD1
     exact k D H1 s1 hD1
abbrev Dz:Stmt:=top 64
theorem W9:FnScope ["_law_cell","_law_many"] ["_law_cell","_law_many"] (Aj Dz):=⟨rfl,rfl,rfl,by decide +kernel,rfl,by decide +kernel,by decide +kernel⟩
theorem Xn {f:Addr}{fd:FuncData} (F:Fun K "_law_thing_by" "_law_thing_by" Dz f fd) (T:Txt K mg Al Ap Au Aw Af As Ao At A3 Ax Ag Ad Av A2 Ar Aq Ac) :FnOk P w K mg base CX0 1 f fd ["_law_cell","_law_many"] (Jh K):=by
 refine F.ok W9 (fun vs H Q E h=>?_) (fun Bw A outer s H vs Q E hr h=>?_)
 . obtain⟨c,m,rfl,hm,k⟩:=h
   rfl
 . obtain⟨c,m,rfl,hm,k⟩:=h
   refine⟨_,(A81 (K:=K) (A7 Dk (Bf Br (pv 0) Ak) Ak (A9 _)) (D5 Js (D5 Js (D5 Ev (D5 Vr (D5 (Cj (Aa Ak Ah)) (D5 (Cl (Aa Ak Ah)) (D5 (Av6 Y3 Ak) (D5 (Bf Ew (pv 1) Ak) (D5 (Bf Bq4 Ak Ak) (D5 P5 (D5 Vr Bi3))))))))))) (Bf Br (Bf C8 (pv 0) Ak) Ak) (fun _ _=>rfl)
    (Am (Bb (Bf Br (Bf C8 (pv 0) Ak) (Bf Ew (pv 1) Ak))))),?_⟩
   refine⟨_,rfl,_,_,rfl,rfl,(by show (0:Int)<3;decide),rfl,_,rfl,?_⟩
   refine ite2 (fun _=>?_) (fun _=>?_)
   rotate_left
   . exact ⟨_,rfl,_,_,rfl,rfl,⟨by decide,by decide⟩,_,rfl,_,_,rfl,rfl,_,_,rfl,rfl,(by show (0:Int)<m+1;omega),k (.int _) (.d (.int _)) H (Same.refl H) rfl⟩
   refine⟨Bh (by simp),fun a1 h1=>?_⟩
   have z1:=Same.new (o:=.tup [.int 0]) h1
   have e1:upd H a1 (.tup [.int 0]) a1=some (.tup [.int 0]):=Ae
   generalize upd H a1 (.tup [.int 0])=G1 at z1 e1 ⊢
   refine⟨Bh (by simp),fun a2 h2=>?_⟩
   have z2:=Same.new (o:=.lst [.int 1]) h2
   have e2:upd G1 a2 (.lst [.int 1]) a2=some (.lst [.int 1]):=Ae
   generalize upd G1 a2 (.lst [.int 1])=G2 at z2 e2 ⊢
   refine⟨_,rfl,_,rfl,_,_,rfl,rfl,_,_,rfl,rfl,⟨by decide,by decide,by decide⟩,fun a3 h3=>?_⟩
   have z3:=Same.new (o:=.dK []) h3
   have e3:upd G2 a3 (.dK []) a3=some (.dK []):=Ae
   generalize upd G2 a3 (.dK [])=G3 at z3 e3 ⊢
   refine⟨Bh (by simp),fun a4 h4=>?_⟩
   have w:∀ o,Same H (upd G3 a4 o):=fun o=>((z1.trans z2).trans z3).trans (Same.new h4)
   have d0:=Int.emod_nonneg (c / 3) (show (11:Int)≠0 by decide)
   have d1:=Int.emod_lt_of_pos (c / 3) (show (0:Int)<11 by decide)
   refine⟨_,rfl,_,_,rfl,rfl,⟨by decide,by decide⟩,_,_,rfl,rfl,(by show (0:Int)<11;decide),?_⟩
   rcases (show c / 3%11=0\/c / 3%11=1\/c / 3%11=2\/c / 3%11=3\/c / 3%11=4\/c / 3%11=5\/c / 3%11=6\/c / 3%11=7\/c / 3%11=8\/c / 3%11=9\/c / 3%11=10 by omega) with q | q | q | q | q | q | q | q | q | q | q
   . exact ⟨a4,_,c / 3%11,.bl true,rfl,rfl,.of Ae,(by rw [q];rfl),k _ (.d (.bl true)) _ (w _) rfl⟩
   . exact ⟨a4,_,c / 3%11,.bl false,rfl,rfl,.of Ae,(by rw [q];rfl),k _ (.d (.bl false)) _ (w _) rfl⟩
   . exact ⟨a4,_,c / 3%11,.non,rfl,rfl,.of Ae,(by rw [q];rfl),k _ (.d .non) _ (w _) rfl⟩
   . exact ⟨a4,_,c / 3%11,.str "0",rfl,rfl,.of Ae,(by rw [q];rfl),k _ (.d (.str "0")) _ (w _) rfl⟩
   . exact ⟨a4,_,c / 3%11,.ref a1,rfl,rfl,.of Ae,(by rw [q];rfl),k _ (.d (.tup [.int 0])) _ (w _) ⟨_,_,rfl,.of (((z2.trans z3).trans (Same.new h4)) _ _ e1),⟨_,_,rfl,rfl,rfl⟩⟩⟩
   . exact ⟨a4,_,c / 3%11,.ref a2,rfl,rfl,.of Ae,(by rw [q];rfl),k _ (.d (.lst [.int 1])) _ (w _) ⟨_,_,rfl,.of ((z3.trans (Same.new h4)) _ _ e2),⟨_,_,rfl,rfl,rfl⟩⟩⟩
   . exact ⟨a4,_,c / 3%11,.int (-1),rfl,rfl,.of Ae,(by rw [q];rfl),k _ (.d (.int (-1))) _ (w _) rfl⟩
   . exact ⟨a4,_,c / 3%11,.int (m+1),rfl,rfl,.of Ae,(by rw [q];rfl),k _ (.d (.int (m+1))) _ (w _) rfl⟩
   . exact ⟨a4,_,c / 3%11,.int (10 ^ (30:Int).toNat),rfl,rfl,.of Ae,(by rw [q];rfl),k _ (.d (.int (10 ^ (30:Int).toNat))) _ (w _) rfl⟩
   . exact ⟨a4,_,c / 3%11,.ref a3,rfl,rfl,.of Ae,(by rw [q];rfl),k _ .nul _ (w _) ⟨_,rfl,.inl (Same.new h4 _ _ e3)⟩⟩
   . exact ⟨a4,_,c / 3%11,.str "",rfl,rfl,.of Ae,(by rw [q];rfl),k _ (.d (.str "")) _ (w _) rfl⟩
abbrev Ca:Stmt:=top 3
theorem Nn:FnScope ["thing","bound"] ["thing","bound"] (Aj Ca):=⟨rfl,rfl,rfl,by decide +kernel,rfl,by decide +kernel,by decide +kernel⟩
theorem Nz {f:Addr}{fd:FuncData} (F:Fun K "is_whole_below" "is_whole_below" Ca f fd) (T:Txt K mg Al Ap Au Aw Af As Ao At A3 Ax Ag Ad Av A2 Ar Aq Ac) (Oc:Has P w K mg base "is_whole" ["thing"] 1 (Et K)):FnOk P w K mg base CX0 2 f fd ["thing","bound"] (Fi K):=by
 refine F.ok Nn (fun vs H Q E h=>?_) (fun Bw A outer s H vs Q E hr h=>?_)
 . obtain⟨x,e,b,rfl,hx,k⟩:=h
   rfl
 . obtain⟨x,e,b,rfl,hx,k⟩:=h
   refine⟨_,(Am (Bb (F4 (A1 Oc hr (by rfl) (Aa (pv 0) Ah)) (F3 (A93 Ba0 Nw Ak (pv 0) (pv 1)))))),?_⟩
   refine⟨_,rfl,x,e,rfl,hx,_,rfl,?_⟩
   refine ite2 (fun h=>?_) (fun h=>?_)
   . obtain⟨i,rfl⟩:=Vm h
     cases (show x=.int i from hx)
     refine⟨_,rfl,_,_,rfl,rfl,_,rfl,?_⟩
     refine ite2 (fun e1=>?_) (fun e1=>?_)
     . refine⟨_,rfl,_,_,rfl,rfl,?_⟩
       have e2:B7 (.d (.int i)) b=decide (i<b):=by show (decide (0<=i)&&decide (i<b))=_;rw [e1];rfl
       rw [e2] at k
       exact k
     . have e2:B7 (.d (.int i)) b=false:=by show (decide (0<=i)&&decide (i<b))=_;simp at e1;simp;omega
       rw [e2] at k
       exact k
   . have e2:B7 e b=false:=by
      rw [Bool.eq_false_iff]
      intro z
      obtain⟨i,rfl,_⟩:=D4 z
      exact h rfl
     rw [e2] at k
     exact k
abbrev Vq:Stmt:=top 12
theorem Bg4:FnScope ["one","other","told","place","number"] ["one","other"] (Aj Vq):=⟨rfl,rfl,rfl,by decide +kernel,rfl,by decide +kernel,by decide +kernel⟩
theorem z9:(["one","other","told","place","number"]:List Str).Nodup:=by decide +kernel
theorem Bi9 {f:Addr}{fd:FuncData} (F:Fun K "plus" "plus" Vq f fd) (T:Txt K mg Al Ap Au Aw Af As Ao At A3 Ax Ag Ad Av A2 Ar Aq Ac) (Ky:Has P w K mg base "add_at" ["chain","place","number"] 1 (Jk K)):FnOk P w K mg base CX0 2 f fd ["one","other"] (m9 K):=by
 refine F.ok Bg4 (fun vs H Q E h=>?_) (fun Bw A outer s H vs Q E hr h=>?_)
 . obtain⟨a,b,ms,ns,rfl,ha,hb,hm,hn,k⟩:=h
   rfl
 . obtain⟨a,b,ms,ns,rfl,ha,hb,hm,hn,k⟩:=h
   refine⟨_,(Ai (A5 (i:=2) z9 (by rfl) (by first | exact Or.inl rfl | exact Or.inr rfl) (Dm Wb (by rfl) T.n_dict Hg (Aa (pv 0) Ah)))
    (Ai (Bp6 (D1 PassesOwn.never rfl (Xj (pv 1)) (L8 (K:=K) (n:=2) (by rfl) (C4 (Bg (i:=3) z9 (by rfl) (by first | exact Or.inl rfl | exact Or.inr rfl)) (C4 (Bg (i:=4) z9 (by rfl) (by first | exact Or.inl rfl | exact Or.inr rfl)) L4))) (Am (Di (A1 Ky hr (by rfl) (Aa (pv 2) (Aa (pv 3) (Aa (pv 4) Ah))))))))
    (Am (Bb (pv 2))))),?_⟩
   refine⟨_,rfl,a,cK ms,rfl,ha,fun D hD=>?_⟩
   have nDb:b≠D:=A8 hb hD
   refine .inr ⟨b,cK ns,(by rw [An nDb];exact hb),fun hnd o=>?_⟩
   refine⟨_,rfl,b,o,cK ns,rfl,Ae,?_⟩
   refine A16 (d:=b) (o:=o) (kvs:=cK ns) (fun i σ H1=>∃ o1 o2,σ=[some (.ref a),some (.ref b),some (.ref D),o1,o2]/\H1 b=some (.frz o (.dK (cK ns)))/\H1 D=some (.dK (cK (Ed ms (ns.take i))))/\(∀ c q,c≠b->c≠D->H c=some q->H1 c=some q))
    ⟨none,none,rfl,Ae,?_,?_⟩ (fun i σ H1 _ ⟨_,_,_,e,_⟩=>e) ?_ ?_
   . rw [An nDb.symm,Ae]
     rfl
   . intro c q n1 n2 e
     rw [An n1,An n2]
     exact e
   . rintro i kk x σ H1 p hx ⟨o1,o2,rfl,hb1,hD1,hk1⟩ hp
     obtain⟨q,hq,rfl,rfl⟩:=A56 hx
     have npb:b≠p:=A8 hb1 hp
     have npD:D≠p:=A8 hD1 hp
     have hlt:i<ns.length:=(List.getElem?_eq_some_iff.mp hq).1
     refine⟨p,_,rfl,.of Ae,rfl,_,_,rfl,_,_,rfl,rfl,?_⟩
     refine⟨_,rfl,_,rfl,_,rfl,D,Ed ms (ns.take i),q.1,q.2,rfl,(by rw [An npD];exact hD1),?_,?_⟩
     . have:=P6 (ns.take i) ms
       rw [List.length_take] at this
       omega
     . refine⟨_,_,rfl,?_,?_,fun c r n1 n2 e=>?_⟩
       . rw [An nDb,An npb];exact hb1
       . rw [Ae,Av5 hq]
       . rw [An n2,An (A8 (hk1 c r n1 n2 e) hp)]
         exact hk1 c r n1 n2 e
   . rintro σ H1 ⟨o1,o2,rfl,hb1,hD1,hk1⟩
     rw [O7,List.take_length] at hD1
     refine⟨hb1,_,rfl,k D _ hD (fun c q e=>?_) (by rw [An nDb.symm];exact hD1)⟩
     by_cases z:c=b
     . subst z
       rw [hb] at e
       cases e
       exact Ae
     . rw [An z]
       exact hk1 c q z (A8 e hD) e
abbrev Ea:Stmt:=top 38
theorem Zb:FnScope ["chain","faces","number","i","face"] ["chain","faces","number"] (Aj Ea):=⟨rfl,rfl,rfl,by decide +kernel,rfl,by decide +kernel,by decide +kernel⟩
theorem O0:(["chain","faces","number","i","face"]:List Str).Nodup:=by decide +kernel
theorem Zk {f:Addr}{fd:FuncData} (F:Fun K "add_faces" "add_faces" Ea f fd) (T:Txt K mg Al Ap Au Aw Af As Ao At A3 Ax Ag Ad Av A2 Ar Aq Ac) (Ky:Has P w K mg base "add_at" ["chain","place","number"] 1 (Jk K)):FnOk P w K mg base CX0 2 f fd ["chain","faces","number"] (Jj K):=by
 refine F.ok Zb (fun vs H Q E h=>?_) (fun Bw A outer s H vs Q E hr h=>?_)
 . obtain⟨a,v,ms,fs,n,rfl,ha,hv,hm,kq⟩:=h
   rfl
 . obtain⟨a,v,ms,fs,n,rfl,ha,hv,hm,kq⟩:=h
   refine⟨_,(Am (D1 PassesOwn.never rfl (A86 (K:=K) (by rfl) T.n_enumerate (Aa (pv 1) Ah)) (L8 (K:=K) (n:=2) (by rfl) (C4 (Bg (i:=3) O0 (by rfl) (by first | exact Or.inl rfl | exact Or.inr rfl)) (C4 (Bg (i:=4) O0 (by rfl) (by first | exact Or.inl rfl | exact Or.inr rfl)) L4))) (Am (Di (A1 Ky hr (by rfl) (Aa (pv 0) (Aa (pv 4) (Aa (Af2 (A7 Dk (Bf Br (pv 3) Ak) Ak (A9 _)) (pv 2) (Av6 Y3 (pv 2))) Ah)))))))),?_⟩
   obtain⟨af,rfl,sq⟩:=TI.sq hv
   refine⟨_,rfl,af,rfl,⟨_,sq⟩,A17 (K:=K) (a:=af) (xs:=fs.map V.int) (fun i σ H1=>∃ o1 o2,σ=[some (.ref a),some (.ref af),some (.int n),o1,o2]/\k9 a H H1/\H1 a=some (.dK (cK (Na ms fs n i))))
    ⟨none,none,rfl,fun _ _ _ e=>e,ha⟩ (fun i σ H1 _ ⟨_,_,_,s1,_⟩=>SqT.x s1 ha sq) ?_ ?_⟩
   . rintro i x σ H1 p hx ⟨o1,o2,rfl,s1,ha1⟩ hp
     have hi:i<fs.length:=by have:=(List.getElem?_eq_some_iff.mp hx).1;simpa using this
     have hxv:x=.int (fs.getD i 0):=by
      rw [List.getElem?_map,List.getElem?_eq_getElem hi] at hx
      rw [List.getD_eq_getElem?_getD,List.getElem?_eq_getElem hi]
      simpa using hx.symm
     subst hxv
     have sp:Same H1 (upd H1 p (.tup [.int i,.int (fs.getD i 0)])):=Same.new hp
     have ha2:=sp _ _ ha1
     have hl:=Zy ms fs n i
     refine⟨p,_,rfl,.of Ae,rfl,_,_,rfl,_,_,rfl,rfl,?_⟩
     have fin:∀ m,m=sgn n i->Jk K [.ref a,.int (fs.getD i 0),.int m] (upd H1 p (.tup [.int i,.int (fs.getD i 0)])) (fun v H'=>∃ o1 o2,([some (.ref a),some (.ref af),some (.int n),some (.int (i:Int)),some (.int (fs.getD i 0))]:St)=[some (.ref a),some (.ref af),some (.int n),o1,o2]/\k9 a H H'/\H' a=some (.dK (cK (Na ms fs n (i+1))))) E0:=by
      intro m hm2
      subst hm2
      refine⟨a,Na ms fs n i,_,_,rfl,ha2,by omega,_,_,rfl,fun c q n1 e=>?_,Ae⟩
      rw [An n1]
      exact sp _ _ (s1 c q n1 e)
     refine⟨_,rfl,_,rfl,_,rfl,_,_,rfl,rfl,(by show (0:Int)<2;decide),rfl,_,rfl,?_⟩
     refine ite2 (fun h1=>?_) (fun h1=>?_)
     . have h2:(i:Int)%2=0:=by simpa using h1
       exact ⟨_,rfl,fin n (by unfold sgn;rw [if_pos h2])⟩
     . have h2:¬(i:Int)%2=0:=by simpa using h1
       exact ⟨_,rfl,_,rfl,fin (-n) (by unfold sgn;rw [if_neg h2])⟩
   . rintro σ H1 ⟨o1,o2,rfl,s1,ha1⟩
     rw [List.length_map] at ha1
     exact kq H1 s1 ha1
abbrev Dc:Stmt:=top 42
theorem T6:FnScope ["number","prime"] ["number","prime"] (Aj Dc):=⟨rfl,rfl,rfl,by decide +kernel,rfl,by decide +kernel,by decide +kernel⟩
theorem Uh {f:Addr}{fd:FuncData} (F:Fun K "turned_over" "turned_over" Dc f fd) (T:Txt K mg Al Ap Au Aw Af As Ao At A3 Ax Ag Ad Av A2 Ar Aq Ac) (E1:Has P w K mg base "shared_divisor" ["one","other"] 1 (n0 K)):FnOk P w K mg base CX0 2 f fd ["number","prime"] (Ww K):=by
 refine F.ok T6 (fun vs H Q E h=>?_) (fun Bw A outer s H vs Q E hr h=>?_)
 . obtain⟨n,p,rfl,hp,hp98,hn,k⟩:=h
   rfl
 . obtain⟨n,p,rfl,hp,hp98,hn,k⟩:=h
   refine⟨_,(Am (Bb (Bf Br (Bx (Bm (K:=K)) (A1 E1 hr (by rfl) (Aa (pv 0) (Aa (pv 1) Ah))) Ak (fun _ _=>rfl)) (pv 1)))),?_⟩
   have hp2:=hp.two
   refine⟨_,rfl,_,rfl,n,p,rfl,hp,hp98,hn,fun L x y H' s' hL hd=>?_⟩
   refine⟨L,_,_,_,rfl,rfl,hL,rfl,_,rfl,_,_,rfl,rfl,(by show (0:Int)<p;omega),?_⟩
   obtain⟨q1,q2,q3⟩:=A99 hp2 hd
   exact k _ H' s' q1 q2 q3
abbrev Hr:Stmt:=top 52
theorem At8:FnScope ["_law_pieces","_law_thing","_law_face","_law_j"] ["_law_pieces","_law_thing"] (Aj Hr):=⟨rfl,rfl,rfl,by decide +kernel,rfl,by decide +kernel,by decide +kernel⟩
theorem Zt:(["_law_pieces","_law_thing","_law_face","_law_j"]:List Str).Nodup:=by decide +kernel
theorem Aw6 {f:Addr}{fd:FuncData} (F:Fun K "_law_fits" "_law_fits" Hr f fd) (T:Txt K mg Al Ap Au Aw Af As Ao At A3 Ax Ag Ad Av A2 Ar Aq Ac) (Dp:Has P w K mg base "_law_level" ["_law_piece"] 1 (Cc K)) (Gz:Has P w K mg base "_law_meets" ["_law_pieces","_law_faces","_law_face"] 1 (Ml K)) (D6:Has P w K mg base "_law_whole" ["_law_found"] 1 (Et K)):FnOk P w K mg base CX0 2 f fd ["_law_pieces","_law_thing"] (Qe K):=by
 refine F.ok At8 (fun vs H Q E h=>?_) (fun Bw A outer s H vs Q E hr h=>?_)
 . obtain⟨a,th,e,xs,rfl,hL,hCn,hxl,hd,k⟩:=h
   rfl
 . obtain⟨a,th,e,xs,rfl,hL,hCn,hxl,hd,k⟩:=h
   have hu8:(A.deeper (PyProof.Rows.envOfC "_law_fits" (Aj Hr) s.heap.objs.size f Bw)).units+8<cLine:=by have:=hr.units;omega
   refine⟨_,(Ai (Bu (PW.pt (Aj8 (F2 (Dl (A0 (Hf (K:=K)) (by rfl) T.n_isinstance A4 (Aa (pv 1) (Aa (Jr (v:=.ty "tuple") rfl T.n_tuple Eg rfl) Ah))))) (Zf (A7 (Gx (K:=K) hu8) (A0 (Ay (K:=K)) (by rfl) T.n_len PySem.boot_len (Aa (pv 1) Ah)) (Cj (Aa Ak (Aa Ak (Aa Ak (Aa Ak Ah))))) rfl)))) (Am (Bb Js)) Be)
    (Ai (D1 PassesOwn.never rfl (R6 (K:=K) (pv 1)) (Bg (i:=2) Zt (by rfl) (by first | exact Or.inl rfl | exact Or.inr rfl)) (Ai (Bu (PW.pt (Aj8 (F2 (Dl (A1 D6 hr (by rfl) (Aa (pv 2) Ah)))) (Aj8 (A7 Nw (pv 2) Ak (A9 _)) (Zf (A7 Bi6 (pv 2) (A0 (Ay (K:=K)) (by rfl) T.n_len PySem.boot_len (Aa (pv 0) Ah)) (A9 _)))))) (Am (Bb Js)) Be)
    (Am (Bu (A7 v7 (Bf Ew (A1 Dp hr (by rfl) (Aa (Bx (Bt (K:=K)) (pv 0) (pv 2) (fun _ _=>rfl)) Ah)) Ak) (A1 Dp hr (by rfl) (Aa (pv 1) Ah)) (A9 _)) (Am (Bb Js)) Be))))
    (Ai (D1 PassesOwn.never rfl (Cu (by rfl) T.n_range (Aa (A0 (Ay (K:=K)) (by rfl) T.n_len PySem.boot_len (Aa (pv 1) Ah)) Ah)) (Bg (i:=3) Zt (by rfl) (by first | exact Or.inl rfl | exact Or.inr rfl)) (Am (Bu (F2 (Dl (A1 Gz hr (by rfl) (Aa (pv 0) (Aa (E8 (Ia (K:=K)) (pv 1) Lz (Fm (pv 3))) (Aa (Bx (Bm (K:=K)) (pv 1) (pv 3) (fun _ _=>rfl)) Ah)))))) (Am (Bb Js)) Be)))
    (Am (Bb Js))))),?_⟩
   refine⟨_,rfl,th,"tuple",.one e,rfl,.inr (.inr (.inr (.inl rfl))),hd,_,rfl,?_⟩
   cases e with
   | nul=>exact k H (Same.refl H)
   | d d =>
     have hd:Rep K H th d:=hd
     have k:∀ H',Same H H'->Q (.bl (Fz xs d)) H':=k
     cases d with
     | non=>exact k H (Same.refl H)
     | bl b=>exact k H (Same.refl H)
     | int i=>exact k H (Same.refl H)
     | str z=>exact k H (Same.refl H)
     | lst es=>exact k H (Same.refl H)
     | tup ds =>
       obtain⟨pa,us,rfl,hq0,r0⟩:=id hd
       have ul:us.length=ds.length:=r0.length
       refine ifN (by simp [isT,isE,isD]) ?_
       refine⟨_,rfl,pa,us,rfl,.inr hq0,Bh (by simp),fun C hC=>?_⟩
       have sC:Same H (upd H C (.tup [.int 0,.int 2,.int 3,.int 4])):=Same.new hC
       refine⟨.int (us.length:Int),nums [0,2,3,4],rfl,.inr ⟨C,_,rfl,.of Ae,Fk.mpr rfl⟩,(by rw [Ka];decide),_,rfl,?_⟩
       rw [ul]
       have cnt:(!(nums [0,2,3,4]).any fun e=>eqD e (.int (ds.length:Int)))=!cntB ds.length:=by
        have:(nums [0,2,3,4]).any (fun e=>eqD e (.int (ds.length:Int)))=cntB ds.length:=by
         simp only [nums,List.map_cons,List.map_nil,List.any_cons,List.any_nil,eqD,cntB]
         rw [Bool.eq_iff_iff]
         simp only [Bool.or_eq_true,beq_iff_eq,Bool.or_false]
         omega
        rw [this]
       have k1:=k _ sC
       by_cases hc:cntB ds.length=true
       rotate_left
       . have hc':cntB ds.length=false:=by simpa using hc
         refine ifP (by rw [if_pos rfl,cnt,hc'];rfl) ?_
         have e2:Fz xs (.tup ds)=false:=by rw [Dq];simp [hc']
         rw [e2] at k1
         exact k1
       refine ifN (by rw [if_pos rfl,cnt,hc];simp) ?_
       have hn4:ds.length<=4:=(Ad4 hc).1
       refine⟨_,rfl,pa,rfl,⟨_,sC.seqT hq0⟩,Bl4 (K:=K) (a:=pa) (xs:=us) (fun i σ H2=>Same H H2/\(∃ o2,σ=[some (.ref a),some (.ref pa),o2,none])/\((ds.take i).all fun e=>B0 xs e (levI ds.length-1))=true)
        ⟨sC,⟨none,rfl⟩,rfl⟩ (fun i σ H2 _ ⟨s2,_⟩=>s2.seqT hq0) ?_ ?_⟩
       . rintro i x σ H2 hx ⟨s2,⟨o2,rfl⟩,hall⟩
         have hq:SqT K H2 pa us:=s2.seqT hq0
         have r:Reps K H2 us ds:=Reps.same s2 r0
         have hL1:LT K H2 (.ref a) xs:=Rep.same s2 hL
         have k1:=k H2 s2
         obtain⟨xu,hxq,hxl2⟩:=LT.len hL1
         obtain⟨e,he,re⟩:=r.getV hx
         have hne:1<=ds.length:=by have:=(List.getElem?_eq_some_iff.mp he).1;omega
         have hn2:2<=ds.length:=by have:=(Ad4 hc).2;omega
         have bad:B0 xs e (levI ds.length-1)=false->Fz xs (.tup ds)=false:=fun z=>by
          have:(ds.all fun e=>B0 xs e (levI ds.length-1))=false:=by
           rw [List.all_eq_false]
           exact ⟨e,List.mem_of_getElem? he,by simp [z]⟩
          rw [Dq,this]
          simp
         refine⟨_,rfl,x,.d e,rfl,re,_,rfl,?_⟩
         by_cases hw:Qb e=true
         rotate_left
         . have hw':Qb e=false:=by simpa using hw
           refine ifP (by show (!Qb e)=true;rw [hw'];rfl) ?_
           have e2:=bad (by cases e<;>first | rfl | (exfalso;exact hw rfl))
           rw [e2] at k1
           exact k1
         refine ifN (by show ¬(!Qb e)=true;rw [hw];simp) ?_
         obtain⟨f,rfl⟩:=Vn hw
         cases (show x=.int f from re)
         refine⟨_,rfl,_,_,rfl,rfl,_,rfl,?_⟩
         by_cases h0:0<=f
         rotate_left
         . refine ifP (by simp;omega) ?_
           have e2:=bad (by show (decide (0<=f)&&decide (f<(xs.length:Int))&&decide (levI (xs.getD f.toNat []).length=_))=false;simp [h0])
           rw [e2] at k1
           exact k1
         refine ifN (by simp;omega) ?_
         refine⟨_,rfl,_,rfl,a,xu,rfl,.inl hxq,_,_,rfl,rfl,_,rfl,?_⟩
         rw [hxl2]
         by_cases h1:f<(xs.length:Int)
         rotate_left
         . refine ifP (by simp;omega) ?_
           have e2:=bad (by show (decide (0<=f)&&decide (f<(xs.length:Int))&&decide (levI (xs.getD f.toNat []).length=_))=false;simp [h1])
           rw [e2] at k1
           exact k1
         refine ifN (by simp;omega) ?_
         obtain⟨xu',v,hq',hv,tv⟩:=LT.get hL1 h0 h1
         refine⟨_,rfl,_,rfl,a,xu',f,_,rfl,rfl,hq',hv,v,nums (xs.getD f.toNat []),rfl,.inr tv,_,_,rfl,rfl,_,rfl,.ref pa,ds,rfl,.inr (Rep.same s2 hd),rfl,_,rfl,?_⟩
         rw [show (nums (xs.getD f.toNat [])).length=(xs.getD f.toNat []).length from List.length_map ..]
         have key:B0 xs (.int f) (levI ds.length-1)=decide (levI (xs.getD f.toNat []).length+1=levI ds.length):=by
          show (decide (0<=f)&&decide (f<(xs.length:Int))&&decide (levI (xs.getD f.toNat []).length=levI ds.length-1))=_
          rw [decide_eq_true h0,decide_eq_true h1]
          simp only [Bool.and_self,Bool.true_and]
          exact decide_eq_decide.mpr (by omega)
         by_cases hg:levI (xs.getD f.toNat []).length+1=levI ds.length
         rotate_left
         . refine ifP (neI hg) ?_
           have e2:=bad (by rw [key];exact decide_eq_false hg)
           rw [e2] at k1
           exact k1
         refine ifN (eqI hg) ?_
         refine⟨s2,⟨_,rfl⟩,?_⟩
         rw [List.take_succ,he,List.all_append,hall]
         show (true&&(B0 xs (.int f) (levI ds.length-1)&&true))=true
         rw [key,decide_eq_true hg]
         rfl
       . rintro σ H1 ⟨s1,⟨o2,rfl⟩,hall⟩
         have hq:SqT K H1 pa us:=s1.seqT hq0
         have hL1:LT K H1 (.ref a) xs:=Rep.same s1 hL
         have hd1:Rep K H1 (.ref pa) (.tup ds):=Rep.same s1 hd
         have k1:=k H1 s1
         rw [ul,List.take_length] at hall
         have hint:=Yz hall
         have tv:TI K H1 (.ref pa) (ds.map toI):=by
          have:=hd1
          rw [hint] at this
          exact this
         generalize hp:ds.map toI=p at hint tv
         have hpn:p.length=ds.length:=by rw [←hp,List.length_map]
         have e2:Fz xs (.tup ds)=(decide (levI ds.length<2) || Fw xs p):=by rw [Dq];rw [hall,hc,hp];rfl
         have hfs:∀ f∈p,0<=f/\f<(xs.length:Int)/\levI (xs.getD f.toNat []).length+1=levI p.length:=by
          intro f hf
          rw [List.all_eq_true] at hall
          have hm:L2.D.int f∈ds:=by
           rw [hint]
           exact List.mem_map.mpr ⟨f,hf,rfl⟩
          have:=hall _ hm
          simp only [B0,Bool.and_eq_true,decide_eq_true_eq] at this
          obtain⟨⟨f0,f1⟩,f2⟩:=this
          exact ⟨f0,f1,by rw [hpn];omega⟩
         have ma:=Ay7 hCn hfs
         rw [hpn] at ma
         obtain⟨pa',ez,sqp⟩:=tv.sq
         cases ez
         have no:∀ j G,j<ds.length->¬meetsB xs (p.take j) (p.getD j 0)=true->Same H G->Q (.bl false) G:=fun j G hj hm g=>by
          have kG:=k G g
          have:Fz xs (.tup ds)=false:=by
           rw [e2,Bool.eq_false_iff]
           exact fun z=>hm (ma.mpr z j hj)
          rw [this] at kG
          exact kG
         refine⟨_,rfl,pa,us,rfl,.inr hq,_,rfl,by omega,by omega,?_⟩
         rw [ul]
         refine C9 (lo:=0) (n:=((ds.length:Nat):Int).toNat) (fun j σ H2=>Same H1 H2/\(∃ o2 o3,σ=[some (.ref a),some (.ref pa),o2,o3])/\∀ j',j'<j->meetsB xs (p.take j') (p.getD j' 0)=true)
          ⟨Same.refl _,⟨_,none,rfl⟩,fun j' h=>absurd h (by omega)⟩ ?_ ?_
         . rintro j σ G hj ⟨g,⟨o2,o3,rfl⟩,hall2⟩
           have hj':j<p.length:=by omega
           rw [show (0:Int)+(j:Int)=(j:Int) by omega]
           have hatp:atI (p.map V.int) (j:Int)=some (.int (p.getD j 0)):=by
            have:=O8 (sp:=p) (x:=(j:Int)) (by omega) (by omega)
            rwa [Int.toNat_natCast] at this
           refine⟨_,rfl,_,rfl,_,rfl,_,rfl,pa,_,rfl,g.seqT sqp,?_,fun T1 G1 g1 q1=>?_⟩
           . rw [List.length_map]
             rintro ⟨_,z⟩
             rw [HT.sIx_nat] at z
             omega
           rw [Qa,←List.map_take] at q1
           have gg:=g.trans g1
           obtain⟨x0,x1,x2⟩:=hfs _ (Ef hj')
           have hcx:=hCn.at x0 x1
           refine⟨_,rfl,_,rfl,pa,_,_,_,rfl,rfl,gg.seqT sqp,hatp,a,.ref T1,xs,p.take j,p.getD j 0,rfl,Rep.same gg hL1,TI.mk q1,x0,x1,fun y hy=>⟨(hfs y (List.mem_of_mem_take hy)).1,(hfs y (List.mem_of_mem_take hy)).2.1⟩,by rw [List.length_take];omega,?_,?_⟩
           . rw [C3,C3] at x2
             by_cases hz:(xs.getD (p.getD j 0).toNat []).length=0
             . exact .inl hz
             . refine .inr ⟨by rw [List.length_take];omega,fun y hy=>?_⟩
               obtain⟨y0,y1,y2⟩:=hfs y (List.mem_of_mem_take hy)
               have hcy:=hCn.at y0 y1
               rw [C3,C3] at y2
               rw [List.length_take]
               omega
           refine⟨_,rfl,?_⟩
           by_cases hm:meetsB xs (p.take j) (p.getD j 0)=true
           . rw [hm]
             refine ifN (by simp) ?_
             refine⟨gg,⟨_,_,rfl⟩,fun j' hj2=>?_⟩
             by_cases z:j'=j
             . subst z;exact hm
             . exact hall2 j' (by omega)
           . refine ifP (by simpa using hm) ?_
             exact no j G1 (by omega) hm (s1.trans gg)
         . rintro σ G ⟨g,⟨o2,o3,rfl⟩,hall2⟩
           have kG:=k G (s1.trans g)
           have:Fz xs (.tup ds)=true:=by
            rw [e2]
            exact ma.mp fun j hj=>hall2 j (by omega)
           rw [this] at kG
           exact kG
abbrev Kq:Stmt:=top 54
theorem At4:FnScope ["_law_pieces","_law_cell","_law_points"] ["_law_pieces","_law_cell"] (Aj Kq):=⟨rfl,rfl,rfl,by decide +kernel,rfl,by decide +kernel,by decide +kernel⟩
theorem Ay2:(["_law_pieces","_law_cell","_law_points"]:List Str).Nodup:=by decide +kernel
theorem Aw2 {f:Addr}{fd:FuncData} (F:Fun K "_law_side" "_law_side" Kq f fd) (T:Txt K mg Al Ap Au Aw Af As Ao At A3 Ax Ag Ad Av A2 Ar Aq Ac) (Id:Has P w K mg base "_law_pick" ["_law_cell","_law_j","_law_many"] 1 (Mo K)):FnOk P w K mg base CX0 2 f fd ["_law_pieces","_law_cell"] (Qj K):=by
 refine F.ok At4 (fun vs H Q E h=>?_) (fun Bw A outer s H vs Q E hr h=>?_)
 . obtain⟨a,xs,c,rfl,hL,hxl,k⟩:=h
   rfl
 . obtain⟨a,xs,c,rfl,hL,hxl,k⟩:=h
   refine⟨_,(Ai (Xd (N':=["_law_place","_law_pieces"]) (cap:=[none,some 0]) (i:=2) Ay2 (by rfl) (by first | exact Or.inl rfl | exact Or.inr rfl) (by rfl) (by kernel_rfl) (Cu (by rfl) T.n_range (Aa (A0 (Ay (K:=K)) (by rfl) T.n_len PySem.boot_len (Aa (pv 0) Ah)) Ah)) (fun _ _ _ _=>(Bg (i:=0) Bv9 (by rfl) (by first | exact Or.inl rfl | exact Or.inr rfl))) (fun _ _ _ _=>(F9 (A7 Dk (A0 (Ay (K:=K)) (by rfl) T.n_len PySem.boot_len (Aa (Bx (Bt (K:=K)) (pv 1) (pv 0) (fun _ _=>rfl)) Ah)) Ak (A9 _)))) (fun _ _ _ _=>(pv 0)))
    (Ai (Bu (A7 Dk (A0 (Ay (K:=K)) (by rfl) T.n_len PySem.boot_len (Aa (pv 2) Ah)) Ak (A9 _)) (Am (Bb (Cj Ah))) Be)
    (Am (Bb (Cj (Aa (Bx (Bt (K:=K)) (pv 2) (A1 Id hr (by rfl) (Aa (pv 1) (Aa Ak (Aa (A0 (Ay (K:=K)) (by rfl) T.n_len PySem.boot_len (Aa (pv 2) Ah)) Ah)))) (fun _ _=>rfl)) (Aa (Bx (Bt (K:=K)) (pv 2) (A1 Id hr (by rfl) (Aa (pv 1) (Aa Ak (Aa (A0 (Ay (K:=K)) (by rfl) T.n_len PySem.boot_len (Aa (pv 2) Ah)) Ah)))) (fun _ _=>rfl)) Ah))))))),?_⟩
   obtain⟨us,hq,ul⟩:=LT.len hL
   refine A6 (fun σ' H'=>∃ (P:Addr) (ps:List Int),σ'=[some (.ref a),some (.int c),some (.ref P)]/\Same H H'/\H' P=some (.lst (ps.map V.int))) ?_ fun key=>?_
   rotate_left
   . refine⟨_,rfl,a,us,rfl,.inl hq,_,rfl,by omega,by omega,fun D hD=>?_⟩
     refine Fh (fun i ys τ G=>Same H G/\G D=some (.lst ys)/\(∃ ps:List Int,ys=ps.map V.int/\ps.length<=i)/\∃ o,τ=[o,some (.ref a)])
      ⟨Same.new hD,Ae,⟨[],rfl,Nat.le_refl _⟩,none,rfl⟩ ?_ ?_
     . rintro i ys τ G hi ⟨g,hDG,⟨ps,rfl,hpl⟩,o,rfl⟩
       have hi2:i<xs.length:=by omega
       obtain⟨u1,v1,hu1,av1,tv1⟩:=LT.get (i:=(0:Int)+(i:Int)) (Rep.same g hL) (by omega) (by omega)
       obtain⟨b1,rfl,hb1⟩:=tv1.sq
       refine⟨_,rfl,_,rfl,a,u1,_,_,rfl,rfl,hu1,av1,b1,_,rfl,.inr hb1,rfl,_,rfl,?_⟩
       refine ite2 (fun h1=>?_) (fun h1=>?_)
       . exact ⟨_,rfl,hDG,Du (by rw [List.length_map];omega),g.turn hD,Ae,⟨ps++[(0:Int)+(i:Int)],by simp,by simp;omega⟩,_,rfl⟩
       . exact ⟨g,hDG,⟨ps,rfl,by omega⟩,_,rfl⟩
     . rintro ys τ G ⟨g,hDG,⟨ps,rfl,hpl⟩,_⟩
       exact key _ _ ⟨D,ps,rfl,g,hDG⟩
   rintro _ H1 ⟨P,ps,rfl,s1,hP⟩
   have pe:(ps.map V.int).length=ps.length:=List.length_map ..
   refine⟨_,rfl,P,_,rfl,.inl (.of hP),rfl,_,rfl,?_⟩
   rw [pe]
   refine ite2 (fun h1=>?_) (fun h1=>?_)
   . refine⟨Nat.zero_le _,fun T1 hT1=>?_⟩
     exact k (.ref T1) [] _ (s1.trans (Same.new hT1)) (TI.mk (.of Ae))
   . have hp:0<(ps.length:Int):=by
      have:¬ps.length=0:=fun z=>h1 (by rw [z];rfl)
      omega
     refine⟨_,rfl,_,rfl,_,rfl,P,_,rfl,.inl (.of hP),_,_,_,rfl,by rw [pe];exact hp,fun r1 H2 s2 r10 r11=>?_⟩
     rw [pe] at r11
     refine⟨P,_,_,_,rfl,rfl,.of (s2 _ _ hP),O8 r10 r11,_,rfl,_,rfl,_,rfl,P,_,rfl,.inl (.of (s2 _ _ hP)),_,_,_,rfl,by rw [pe];exact hp,fun r2 H3 s3 r20 r21=>?_⟩
     rw [pe] at r21
     refine⟨P,_,_,_,rfl,rfl,.of ((s2.trans s3) _ _ hP),O8 r20 r21,Bh (by simp),fun T1 hT1=>?_⟩
     exact k (.ref T1) [_,_] _ (((s1.trans s2).trans s3).trans (Same.new hT1)) (TI.mk (.of Ae))
abbrev Cd:Stmt:=top 58
theorem Qv:FnScope ["_law_words","_law_word","_law_family","_law_layer","_law_rows","_law_k","_law_below","_law_one","_law_face","_law_more"] ["_law_words","_law_word","_law_family"] (Aj Cd):=⟨rfl,rfl,rfl,by decide +kernel,rfl,by decide +kernel,by decide +kernel⟩
theorem Bk:(["_law_words","_law_word","_law_family","_law_layer","_law_rows","_law_k","_law_below","_law_one","_law_face","_law_more"]:List Str).Nodup:=by decide +kernel
theorem Rf {f:Addr}{fd:FuncData} (F:Fun K "_law_words_with" "_law_words_with" Cd f fd) (T:Txt K mg Al Ap Au Aw Af As Ao At A3 Ax Ag Ad Av A2 Ar Aq Ac) (D3:Has P w K mg base "_law_faces_by" ["_law_word","_law_family"] 1 (E7 K)):FnOk P w K mg base CX0 2 f fd ["_law_words","_law_word","_law_family"] (Fj K):=by
 refine F.ok Qv (fun vs H Q E h=>?_) (fun Bw A outer s H vs Q E hr h=>?_)
 . obtain⟨l,us,v,ws,w,fam,rfl,hl,hr0,hv,hw,hlen,k⟩:=h
   rfl
 . obtain⟨l,us,v,ws,w,fam,rfl,hl,hr0,hv,hw,hlen,k⟩:=h
   have hu8:(A.deeper (PyProof.Rows.envOfC "_law_words_with" (Aj Cd) s.heap.objs.size f Bw)).units+8<cLine:=by have:=hr.units;omega
   refine⟨_,(Ai (A5 (i:=3) Bk (by rfl) (by first | exact Or.inl rfl | exact Or.inr rfl) (Cl (Aa (pv 1) Ah)))
    (Ai (A5 (i:=4) Bk (by rfl) (by first | exact Or.inl rfl | exact Or.inr rfl) (Cl Ah))
    (Ai (D1 PassesOwn.never rfl (Cu (by rfl) T.n_range (Aa Ak Ah)) (Bg (i:=5) Bk (by rfl) (by first | exact Or.inl rfl | exact Or.inr rfl)) (Ai (A5 (i:=4) Bk (by rfl) (by first | exact Or.inl rfl | exact Or.inr rfl) (Bf (Fp (K:=K)) (pv 3) (pv 4)))
    (Ai (A5 (i:=6) Bk (by rfl) (by first | exact Or.inl rfl | exact Or.inr rfl) (Cl Ah))
    (Ai (D1 PassesOwn.never rfl (C5 (K:=K) (pv 3)) (Bg (i:=7) Bk (by rfl) (by first | exact Or.inl rfl | exact Or.inr rfl)) (Am (D1 PassesOwn.never rfl (C5 (K:=K) (A1 D3 hr (by rfl) (Aa (pv 7) (Aa (pv 2) Ah)))) (Bg (i:=8) Bk (by rfl) (by first | exact Or.inl rfl | exact Or.inr rfl)) (Am (Bu (PW.pt (Oy (A7 (Gx (K:=K) hu8) (pv 8) (pv 0) rfl) (Ly (A7 (Gx (K:=K) hu8) (pv 8) (pv 6) rfl)))) (Am (Di (Le (K:=K) PySem.F.plainAttrs_list PySem.F.slot_list_append PySem.F.type_list_append Do (pv 6) (Aa (pv 8) Ah)))) Be)))))
    (Am (A5 (i:=3) Bk (by rfl) (by first | exact Or.inl rfl | exact Or.inr rfl) (pv 6)))))))
    (Ai (A5 (i:=9) Bk (by rfl) (by first | exact Or.inl rfl | exact Or.inr rfl) (Dm (Mw (K:=K)) (by rfl) T.n_list Wd (Aa (pv 0) Ah)))
    (Ai (D1 PassesOwn.never rfl (C5 (K:=K) (pv 4)) (Bg (i:=7) Bk (by rfl) (by first | exact Or.inl rfl | exact Or.inr rfl)) (Am (Bu (A7 (Gx (K:=K) hu8) (pv 7) (pv 9) rfl) (Am (Di (Le (K:=K) PySem.F.plainAttrs_list PySem.F.slot_list_append PySem.F.type_list_append Do (pv 9) (Aa (pv 7) Ah)))) Be)))
    (Am (Bb (pv 9)))))))),?_⟩
   have s0w:∀ u∈[w],Word fam u:=fun u hu=>by
    have e:u=w:=by simpa using hu
    subst e
    exact hw
   refine⟨_,rfl,Bh (by simp),fun L0 hL0=>?_⟩
   have s1:Same H (upd H L0 (.lst [v])):=Same.new hL0
   refine⟨Nat.zero_le _,fun R0 hR0=>?_⟩
   have s2:Same (upd H L0 (.lst [v])) (upd (upd H L0 (.lst [v])) R0 (.lst [])):=Same.new hR0
   refine⟨_,rfl,by decide,by decide,C9 (lo:=0) (n:=(4:Int).toNat)
    (fun i σ H2=>∃ (L R:Addr) (lu ru:List V) (layer rows:List (List Int)) (o5 o6 o7 o8 o9:Option V),σ=[some (.ref l),some v,some (.int fam),some (.ref L),some (.ref R),o5,o6,o7,o8,o9]/\Same H H2 ∧
      H2 L=some (.lst lu)/\Reps K H2 lu (layer.map tI)/\H2 R=some (.lst ru)/\Reps K H2 ru (rows.map tI)/\(∀ u∈layer,Word fam u)/\Mu ws fam (4-i) layer rows=Mu ws fam 4 [w] []/\layer.length<=4 ^ i/\rows.length<=1000*i)
    ⟨L0,R0,[v],[],[w],[],none,none,none,none,none,rfl,s1.trans s2,s2 _ _ Ae,Reps.one (TI.same (s1.trans s2) hv),Ae,rfl,s0w,rfl,by simp,by simp⟩ ?_ ?_⟩
   . rintro i σ H2 hi ⟨L,R,lu,ru,layer,rows,o5,o6,o7,o8,o9,rfl,sH,hL,rL,hR,rR,hWl,hlay,hll,hrl⟩
     have hi4:i<4:=by simpa using hi
     have h4i:4 ^ i<=64:=by
      have:i=0\/i=1\/i=2\/i=3:=by omega
      rcases this with rfl | rfl | rfl | rfl<;>decide
     have lul:lu.length=layer.length:=by have:=rL.length;simpa using this
     have rul:ru.length=rows.length:=by have:=rR.length;simpa using this
     refine⟨_,rfl,_,rfl,L,R,_,_,rfl,rfl,.of hL,.of hR,Bh (by omega),fun R1 hR1=>?_⟩
     have sa:Same H2 (upd H2 R1 (.lst (lu++ru))):=Same.new hR1
     have hR1a:(upd H2 R1 (.lst (lu++ru))) R1=some (.lst (lu++ru)):=Ae
     have rRa:Reps K (upd H2 R1 (.lst (lu++ru))) (lu++ru) ((layer++rows).map tI):=by
      rw [List.map_append]
      exact (Reps.same sa rL).append (Reps.same sa rR)
     have hLa:=sa _ _ hL
     have rLa:Reps K (upd H2 R1 (.lst (lu++ru))) lu (layer.map tI):=Reps.same sa rL
     have sHa:Same H (upd H2 R1 (.lst (lu++ru))):=sH.trans sa
     refine⟨Nat.zero_le _,fun B hB=>?_⟩
     have sb:Same (upd H2 R1 (.lst (lu++ru))) (upd (upd H2 R1 (.lst (lu++ru))) B (.lst [])):=Same.new hB
     have hBH:H B=none:=sHa.free hB
     refine⟨_,rfl,L,rfl,⟨_,.of (sb _ _ hLa)⟩,for_list (K:=K) (a:=L) (xs:=lu)
      (fun j σ H3=>∃ (bu:List V) (o7 o8:Option V),σ=[some (.ref l),some v,some (.int fam),some (.ref L),some (.ref R1),some (.int (0+i)),some (.ref B),o7,o8,o9]/\Same (upd H2 R1 (.lst (lu++ru))) H3/\H3 B=some (.lst bu) ∧
        Reps K H3 bu ((Eh ws fam [] (layer.take j)).map tI))
      ⟨[],_,_,rfl,sb,Ae,rfl⟩ (fun j σ H3 _ ⟨_,_,_,_,s3,_⟩=>.of (s3 _ _ hLa)) ?_ ?_⟩
     . rintro j x σ H3 hx ⟨bu,o7,o8,rfl,s3,hB3,rB⟩
       have hj:j<lu.length:=(List.getElem?_eq_some_iff.mp hx).1
       have hjl:j<layer.length:=by omega
       have hjx:(layer.map tI)[j]?=some (tI layer[j]):=by rw [List.getElem?_map,List.getElem?_eq_getElem hjl];rfl
       obtain⟨x',hx',tx⟩:=rLa.get hjx
       rw [hx] at hx'
       cases hx'
       have hwj:Word fam layer[j]:=hWl _ (List.getElem_mem _)
       refine⟨_,rfl,_,rfl,x,layer[j],fam,rfl,TI.same s3 tx,hwj,fun p fu H4 hp s4 hp4 r4=>?_⟩
       have fl:=G6 hwj
       have ful:fu.length=(Az layer[j] fam).length:=by have:=r4.length;simpa using this
       have hpB:p≠B:=fun z=>by rw [z,hB3] at hp;cases hp
       have hB4:=s4 _ _ hB3
       refine⟨p,rfl,⟨_,.of hp4⟩,for_list (K:=K) (a:=p) (xs:=fu)
        (fun m σ H5=>∃ (bu:List V) (o8:Option V),σ=[some (.ref l),some v,some (.int fam),some (.ref L),some (.ref R1),some (.int (0+i)),some (.ref B),some x,o8,o9]/\SameX B H4 H5/\H5 B=some (.lst bu) ∧
          Reps K H5 bu ((Co ws (Eh ws fam [] (layer.take j)) ((Az layer[j] fam).take m)).map tI)/\(Co ws (Eh ws fam [] (layer.take j)) ((Az layer[j] fam).take m)).length<=1000)
        ⟨bu,_,rfl,SameX.refl _ _,hB4,(by simpa [Co] using Reps.same s4 rB),?_⟩ (fun m σ H5 _ ⟨_,_,_,s5,_⟩=>.of (s5 _ _ hpB hp4)) ?_ ?_⟩
       . have:=Kl (ws:=ws) (fam:=fam) (layer.take j) [] (fun u hu=>hWl u (List.mem_of_mem_take hu))
         simp only [List.take_zero,Co,List.length_nil,List.length_take] at this ⊢
         omega
       . rintro m y σ H5 hy ⟨bu5,o8',rfl,s5,hB5,rB5,hbl5⟩
         have hm:m<fu.length:=(List.getElem?_eq_some_iff.mp hy).1
         have hmf:m<(Az layer[j] fam).length:=by omega
         have hmy:((Az layer[j] fam).map tI)[m]?=some (tI (Az layer[j] fam)[m]):=by rw [List.getElem?_map,List.getElem?_eq_getElem hmf];rfl
         obtain⟨y',hy',ty⟩:=r4.get hmy
         rw [hy] at hy'
         cases hy'
         generalize hf:(Az layer[j] fam)[m]=fc at ty
         have ty5:TI K H5 y fc:=TI.t (s5.t hB4) ty
         have hl5:H5 l=some (.lst us):=by
          refine s5 l _ (fun z=>?_) (s4 _ _ (s3 _ _ (sHa _ _ hl)))
          rw [z] at hl
          rw [hl] at hBH
          cases hBH
         have rl5:Rep K H5 (.ref l) (.lst (ws.map tI)):=⟨l,us,rfl,.of hl5,Reps.t (s5.t hB4) (Mx ws) (Reps.same ((sHa.trans s3).trans s4) hr0)⟩
         have rb5:Rep K H5 (.ref B) (.lst ((Co ws (Eh ws fam [] (layer.take j)) ((Az layer[j] fam).take m)).map tI)):=⟨B,bu5,rfl,.of hB5,rB5⟩
         have e0:Co ws (Eh ws fam [] (layer.take j)) ((Az layer[j] fam).take (m+1))=(if fc ∉ ws/\fc ∉ Co ws (Eh ws fam [] (layer.take j)) ((Az layer[j] fam).take m) then Co ws (Eh ws fam [] (layer.take j)) ((Az layer[j] fam).take m)++[fc] else Co ws (Eh ws fam [] (layer.take j)) ((Az layer[j] fam).take m)):=by
          rw [List.take_succ,List.getElem?_eq_getElem hmf,hf]
          exact Tt _ _ _ _
         have hbu5:bu5.length=(Co ws (Eh ws fam [] (layer.take j)) ((Az layer[j] fam).take m)).length:=by have:=rB5.length;simpa using this
         have hlen6:(Co ws (Eh ws fam [] (layer.take j)) ((Az layer[j] fam).take (m+1))).length<=1000:=by
          have h1:=Ov (ws:=ws) ((Az layer[j] fam).take (m+1)) (Eh ws fam [] (layer.take j))
          have h2:=Kl (ws:=ws) (fam:=fam) (layer.take j) [] (fun u hu=>hWl u (List.mem_of_mem_take hu))
          simp only [List.length_nil,List.length_take] at h1 h2
          have h3:(Az layer[j] fam).length<=4:=by have:=fl.1;have:=fl.2;split at*<;> omega
          omega
         generalize hacc:Co ws (Eh ws fam [] (layer.take j)) ((Az layer[j] fam).take m)=acc at rB5 rb5 e0 hbu5 hbl5
         refine⟨_,rfl,_,rfl,tI fc,ws.map tI,ty5,.inl rl5,(by have:=My ws;omega),_,rfl,?_⟩
         by_cases h1:fc∈ws
         . refine ifN (by rw [if_pos rfl,Tl];simp [h1]) ?_
           refine ifN (by simp) ?_
           refine⟨bu5,_,rfl,s5,hB5,?_,hlen6⟩
           rw [e0,if_neg (by simp [h1])]
           exact rB5
         . refine ifP (by rw [if_pos rfl,Tl];simp [h1]) ?_
           refine⟨_,rfl,_,rfl,tI fc,acc.map tI,ty5,.inl rb5,(by have:=My acc;omega),_,rfl,?_⟩
           by_cases h2:fc∈acc
           . refine ifN (by rw [if_pos rfl,Tl];simp [h2]) ?_
             refine⟨bu5,_,rfl,s5,hB5,?_,hlen6⟩
             rw [e0,if_neg (by simp [h2])]
             exact rB5
           . refine ifP (by rw [if_pos rfl,Tl];simp [h2]) ?_
             refine⟨_,rfl,.inl ⟨rfl,_,.of hB5⟩,_,rfl,B,_,_,rfl,rfl,hB5,Du (by omega),?_⟩
             refine⟨_,_,rfl,s5.upd,Ae,?_,hlen6⟩
             rw [e0,if_pos ⟨h1,h2⟩]
             exact Ht hB5 rB5 ty5
       . rintro σ H5 ⟨bu5,o8',rfl,s5,hB5,rB5,_⟩
         refine⟨bu5,_,_,rfl,?_,hB5,?_⟩
         . exact s5.same (s3.trans s4) hB
         . rw [ful,List.take_length] at rB5
           rw [List.take_succ,List.getElem?_eq_getElem hjl]
           have e1:Eh ws fam [] (layer.take j++(some layer[j]).toList)=Co ws (Eh ws fam [] (layer.take j)) (Az layer[j] fam):=Wf _ _ _ _ _
           rw [e1]
           exact rB5
     . rintro σ H3 ⟨bu,o7,o8,rfl,s3,hB3,rB⟩
       rw [lul,List.take_length] at rB
       refine⟨_,rfl,?_⟩
       refine⟨B,R1,bu,lu++ru,Eh ws fam [] layer,layer++rows,_,_,_,_,_,rfl,sHa.trans s3,hB3,rB,s3 _ _ hR1a,Reps.same s3 rRa,?_,?_,?_,?_⟩
       . intro u hu
         rcases M9 _ _ hu with z|⟨t,ht,z⟩
         . exact nomatch z
         . exact (Kz (hWl t ht) z).1
       . rw [←hlay,show 4-i=(4-(i+1))+1 by omega]
         rfl
       . have:=Kl (ws:=ws) (fam:=fam) layer [] hWl
         simp only [List.length_nil] at this
         rw [Nat.pow_succ]
         omega
       . rw [List.length_append]
         omega
   . rintro σ H2 ⟨L,R,lu,ru,layer,rows,o5,o6,o7,o8,o9,rfl,sH,hL,rL,hR,rR,hWl,hlay,hll,hrl⟩
     have hrows:rows=Mu ws fam 4 [w] []:=hlay
     have hrl2:=An4 (ws:=ws) hw
     rw [←hrows] at hrl2
     have rul:ru.length=rows.length:=by have:=rR.length;simpa using this
     refine⟨_,rfl,l,_,rfl,.inl (.of (sH _ _ hl)),fun M hM=>?_⟩
     have sm:Same H2 (upd H2 M (.lst us)):=Same.new hM
     have hMH:H M=none:=sH.free hM
     have usl:us.length=ws.length:=by have:=hr0.length;simpa using this
     refine⟨_,rfl,R,rfl,⟨_,.of (sm _ _ hR)⟩,for_list (K:=K) (a:=R) (xs:=ru)
      (fun j σ H3=>∃ (mu:List V) (o7:Option V),σ=[some (.ref l),some v,some (.int fam),some (.ref L),some (.ref R),o5,o6,o7,o8,some (.ref M)]/\Same H2 H3/\H3 M=some (.lst mu)/\Reps K H3 mu ((D9 ws (rows.take j)).map tI))
      ⟨us,_,rfl,sm,Ae,(by simpa [D9] using Reps.same (sH.trans sm) hr0)⟩ (fun j σ H3 _ ⟨_,_,_,s3,_⟩=>.of (s3 _ _ hR)) ?_ ?_⟩
     . rintro j x σ H3 hx ⟨mu,o7',rfl,s3,hM3,rM⟩
       have hj:j<ru.length:=(List.getElem?_eq_some_iff.mp hx).1
       have hjl:j<rows.length:=by omega
       have hjx:(rows.map tI)[j]?=some (tI rows[j]):=by rw [List.getElem?_map,List.getElem?_eq_getElem hjl];rfl
       obtain⟨x',hx',tx⟩:=rR.get hjx
       rw [hx] at hx'
       cases hx'
       generalize hf:rows[j]=fc at tx
       have tx3:TI K H3 x fc:=TI.same s3 tx
       have e0:D9 ws (rows.take (j+1))=(if fc∈D9 ws (rows.take j) then D9 ws (rows.take j) else D9 ws (rows.take j)++[fc]):=by
        rw [List.take_succ,List.getElem?_eq_getElem hjl,hf]
        exact Tu _ _ _
       have hal:=Wk (rows.take j) ws
       rw [List.length_take] at hal
       have mul:mu.length=(D9 ws (rows.take j)).length:=by have:=rM.length;simpa using this
       generalize hacc:D9 ws (rows.take j)=acc at rM e0 hal mul
       have rm3:Rep K H3 (.ref M) (.lst (acc.map tI)):=⟨M,mu,rfl,.of hM3,rM⟩
       refine⟨_,rfl,_,rfl,tI fc,acc.map tI,tx3,.inl rm3,(by have:=My acc;omega),_,rfl,?_⟩
       by_cases h1:fc∈acc
       . refine ifN (by rw [if_pos rfl,Tl];simp [h1]) ?_
         refine⟨mu,_,rfl,s3,hM3,?_⟩
         rw [e0,if_pos h1]
         exact rM
       . refine ifP (by rw [if_pos rfl,Tl];simp [h1]) ?_
         refine⟨_,rfl,.inl ⟨rfl,_,.of hM3⟩,_,rfl,M,_,_,rfl,rfl,hM3,Du (by omega),?_⟩
         refine⟨_,_,rfl,s3.turn hM,Ae,?_⟩
         rw [e0,if_neg h1]
         exact Ht hM3 rM tx3
     . rintro σ H3 ⟨mu,o7',rfl,s3,hM3,rM⟩
       rw [rul,List.take_length,hrows] at rM
       exact ⟨_,rfl,k M mu H3 hMH (sH.trans s3) hM3 rM⟩
abbrev Cv:Stmt:=top 65
theorem Qx:FnScope ["_law_thing","_law_low","_law_high"] ["_law_thing","_law_low","_law_high"] (Aj Cv):=⟨rfl,rfl,rfl,by decide +kernel,rfl,by decide +kernel,by decide +kernel⟩
theorem Rh {f:Addr}{fd:FuncData} (F:Fun K "_law_is_from_to" "_law_is_from_to" Cv f fd) (T:Txt K mg Al Ap Au Aw Af As Ao At A3 Ax Ag Ad Av A2 Ar Aq Ac) (D6:Has P w K mg base "_law_whole" ["_law_found"] 1 (Et K)):FnOk P w K mg base CX0 2 f fd ["_law_thing","_law_low","_law_high"] (Mn K):=by
 refine F.ok Qx (fun vs H Q E h=>?_) (fun Bw A outer s H vs Q E hr h=>?_)
 . obtain⟨v,e,lo,hi,rfl,hv,k⟩:=h
   rfl
 . obtain⟨v,e,lo,hi,rfl,hv,k⟩:=h
   refine⟨_,(Am (Bb (F4 (A1 D6 hr (by rfl) (Aa (pv 0) Ah)) (F4 (B8 Ba0 (pv 1) (pv 0) (A9 _)) (F3 (B8 Ba0 (pv 0) (pv 2) (A9 _))))))),?_⟩
   refine⟨_,rfl,v,e,rfl,hv,_,rfl,?_⟩
   refine ite2 (fun h=>?_) (fun h=>?_)
   rotate_left
   . have:Yb e lo hi=false:=by
      cases e with
      | nul=>rfl
      | d d=>cases d<;>first | rfl | (exfalso;exact h rfl)
     rw [this] at k
     exact k
   obtain⟨i,rfl⟩:=Vm h
   cases (show v=.int i from hv)
   have e0:Yb (.d (.int i)) lo hi=(decide (lo<=i)&&decide (i<=hi)):=rfl
   refine⟨_,rfl,_,rfl,_,_,rfl,rfl,_,rfl,?_⟩
   refine ite2 (fun h1=>?_) (fun h1=>?_)
   . refine⟨_,rfl,_,rfl,_,_,rfl,rfl,?_⟩
     rw [e0,h1] at k
     exact k
   . rw [e0,Bool.eq_false_iff.mpr h1] at k
     exact k
abbrev Bv:Stmt:=top 9
theorem K1:FnScope ["shape","thing","level"] ["shape","thing","level"] (Aj Bv):=⟨rfl,rfl,rfl,by decide +kernel,rfl,by decide +kernel,by decide +kernel⟩
theorem K3 {f:Addr}{fd:FuncData} (F:Fun K "is_place_of_level" "is_place_of_level" Bv f fd) (T:Txt K mg Al Ap Au Aw Af As Ao At A3 Ax Ag Ad Av A2 Ar Aq Ac) (Bc:Has P w K mg base "is_whole_below" ["thing","bound"] 2 (Fi K)) (C0:Has P w K mg base "level_of" ["piece"] 1 (Cc K)):FnOk P w K mg base CX0 3 f fd ["shape","thing","level"] (Dh K):=by
 refine F.ok K1 (fun vs H Q E h=>?_) (fun Bw A outer s H vs Q E hr h=>?_)
 . obtain⟨a,x,d,l,xs,rfl,hL,hx,k⟩:=h
   rfl
 . obtain⟨a,x,d,l,xs,rfl,hL,hx,k⟩:=h
   refine⟨_,(Am (Bb (F4 (A1 Bc hr (by rfl) (Aa (pv 1) (Aa (A0 (Ay (K:=K)) (by rfl) T.n_len PySem.boot_len (Aa (pv 0) Ah)) Ah))) (F3 (B8 Dk (A1 C0 hr (by rfl) (Aa (Bx (Bt (K:=K)) (pv 0) (pv 1) (fun _ _=>rfl)) Ah)) (pv 2) (A9 _)))))),?_⟩
   obtain⟨us,hq,hul⟩:=LT.len hL
   refine⟨_,rfl,_,rfl,a,us,rfl,.inl hq,x,.d d,_,rfl,hx,_,rfl,?_⟩
   rw [hul]
   refine ite2 (fun e=>?_) (fun e=>?_)
   . obtain⟨i,rfl⟩:∃ i,d=.int i:=by cases d<;>first | exact ⟨_,rfl⟩ | (exfalso;simp [B7,Be7] at e)
     cases (show x=.int i from hx)
     have e':(decide (0<=i)&&decide (i<(xs.length:Int)))=true:=e
     have h0:0<=i/\i<(xs.length:Int):=by simpa using e'
     obtain⟨us',v,hq',hv,tv⟩:=LT.get hL h0.1 h0.2
     refine⟨_,rfl,_,rfl,a,us',i,v,rfl,rfl,hq',hv,v,_,rfl,.inr tv,_,rfl,rfl,?_⟩
     have e2:B0 xs (.int i) l=decide (levI (nums (xs.getD i.toNat [])).length=l):=by
      show (decide (0<=i)&&decide (i<(xs.length:Int))&&decide (levI (xs.getD i.toNat []).length=l))=_
      rw [e']
      simp [nums]
     rw [e2] at k
     have e3:decide (V.int (levI (nums (xs.getD i.toNat [])).length)=V.int l)=decide (levI (nums (xs.getD i.toNat [])).length=l):=by
      by_cases z:levI (nums (xs.getD i.toNat [])).length=l
      . simp [z]
      . simp [z]
     rw [e3]
     exact k
   . have e2:B0 xs d l=false:=by
      cases d with
      | int i =>
        have e':¬(decide (0<=i)&&decide (i<(xs.length:Int)))=true:=e
        show (decide (0<=i)&&decide (i<(xs.length:Int))&&decide (levI (xs.getD i.toNat []).length=l))=false
        rw [Bool.eq_false_iff.mpr e']
        rfl
      | _=>rfl
     rw [e2] at k
     exact k
abbrev De:Stmt:=top 36
theorem T8:FnScope ["k","bound"] ["k","bound"] (Aj De):=⟨rfl,rfl,rfl,by decide +kernel,rfl,by decide +kernel,by decide +kernel⟩
theorem Uj {f:Addr}{fd:FuncData} (F:Fun K "check_level" "check_level" De f fd) (T:Txt K mg Al Ap Au Aw Af As Ao At A3 Ax Ag Ad Av A2 Ar Aq Ac) (Bc:Has P w K mg base "is_whole_below" ["thing","bound"] 2 (Fi K)):FnOk P w K mg base (CX1 P w) 3 f fd ["k","bound"] (Qh K Af):=by
 refine F.okX T8 (fun vs H Q E h=>?_) (fun Bw A outer s H vs Q E hr h=>?_)
 . obtain⟨x,e,b,rfl,hx,hb0,hb1,k1,k2⟩:=h
   rfl
 . obtain⟨x,e,b,rfl,hx,hb0,hb1,k1,k2⟩:=h
   refine⟨_,(Am (Bu (F2 (Dl (A1 Bc hr (by rfl) (Aa (pv 0) (Aa (pv 1) Ah))))) (Am (P4 Mt (by rfl) (by rfl) T.m_NoLevel T.e_NoLevel (Aa (Av8 (Xi Vr (Xi (Bd5 (pv 1)) Bd2))) Ah))) Be)),?_⟩
   refine⟨_,rfl,_,rfl,x,e,b,rfl,hx,_,rfl,?_⟩
   refine ite2 (fun h1=>?_) (fun h1=>?_)
   . refine⟨_,rfl,by decide +kernel,_,rfl,.inl ⟨b,rfl,Zw (by omega),fun x2 hx2=>⟨_,rfl,hx2,fun x3 hx3=>?_⟩⟩⟩
     exact ⟨Bh (by simp),k2 (by simpa using h1) H (Same.refl H)⟩
   . exact k1 (by simpa using h1)
abbrev Ff:Stmt:=top 41
theorem u5:FnScope ["thing"] ["thing"] (Aj Ff):=⟨rfl,rfl,rfl,by decide +kernel,rfl,by decide +kernel,by decide +kernel⟩
theorem x9 {f:Addr}{fd:FuncData} (F:Fun K "is_prime" "is_prime" Ff f fd) (T:Txt K mg Al Ap Au Aw Af As Ao At A3 Ax Ag Ad Av A2 Ar Aq Ac) (Bc:Has P w K mg base "is_whole_below" ["thing","bound"] 2 (Fi K)):FnOk P w K mg base CX0 3 f fd ["thing"] (Qg K):=by
 refine F.ok u5 (fun vs H Q E h=>?_) (fun Bw A outer s H vs Q E hr h=>?_)
 . obtain⟨x,e,rfl,hx,k⟩:=h
   rfl
 . obtain⟨x,e,rfl,hx,k⟩:=h
   obtain⟨t_PRIME_BOUND,c_PRIME_BOUND⟩:=T.x_PRIME_BOUND
   refine⟨_,(Ai (Bu (PW.pt (Aj8 (F2 (Dl (A1 Bc hr (by rfl) (Aa (pv 0) (Aa (Cr (v:=.int 98) (by rfl) c_PRIME_BOUND ⟨_,rfl⟩) Ah))))) (Zf (A7 Nw (pv 0) Ak (A9 _))))) (Am (Bb Js)) Be)
    (Am (Bb (A0 (Vw (K:=K) (by rfl)) (by rfl) T.n_all i8 (Aa (Dj (N':=["number","thing"]) (cap:=[none,some 0]) (by rfl) (by kernel_rfl) (Mq (by rfl) T.n_range (Aa Ak (Aa (pv 0) Ah))) (fun _ _ _ _=>(Bg (i:=0) Bw2 (by rfl) (by first | exact Or.inl rfl | exact Or.inr rfl))) (fun _ _ _ _=>Fl) (fun _ _ _ _=>(B8 v7 (Bf Br (pv 1) (pv 0)) Ak (A9 _)))) Ah))))),?_⟩
   refine⟨_,rfl,x,e,98,rfl,hx,_,rfl,?_⟩
   by_cases hb:B7 e 98=true
   rotate_left
   . refine ifP (by simpa using hb) ?_
     refine ifP rfl ?_
     refine k false H (Same.refl H) ⟨(fun z=>by cases z),fun ⟨p,ep,hp,h98⟩=>absurd ?_ hb⟩
     rw [ep]
     exact Hh (by have:=hp.two;omega) h98
   rw [hb]
   refine ifN (by simp) ?_
   obtain⟨i,rfl,h0,h98⟩:=D4 hb
   cases (show x=.int i from hx)
   refine⟨_,rfl,_,_,rfl,rfl,_,rfl,?_⟩
   by_cases h2:i<2
   . refine ifP (by simpa using h2) ?_
     refine k false H (Same.refl H) ⟨(fun z=>by cases z),fun ⟨p,ep,hp,_⟩=>?_⟩
     cases ep
     have:=hp.two
     omega
   refine ifN (by simpa using h2) ?_
   refine⟨_,rfl,_,_,rfl,⟨by decide,by decide,by omega,by omega⟩,fun D hD=>?_⟩
   refine Mg (fun j ys τ H1=>j<=(i-2).toNat/\Same H H1/\H1 D=some (.lst ys)/\(∃ bs:List Bool,ys=bs.map V.bl/\bs.length=j/\(bs.all id=true↔∀ m:Nat,m<j->¬i%(2+(m:Int))=0))/\∃ o,τ=[o,some (.int i)])
    ⟨Nat.zero_le _,Same.new hD,Ae,⟨[],rfl,rfl,⟨fun _ m hm=>absurd hm (Nat.not_lt_zero _),fun _=>rfl⟩⟩,none,rfl⟩ ?_ ?_
   . rintro j ys τ H1 hj ⟨_,s1,hD1,⟨bs,rfl,hbl,hba⟩,o,rfl⟩
     have hj2:j<(i-2).toNat:=by omega
     refine⟨_,rfl,_,rfl,_,_,rfl,rfl,(by show (0:Int)<2+(j:Int);omega),rfl,?_⟩
     refine⟨hD1,Du (by rw [List.length_map];omega),by omega,s1.turn hD,Ae,⟨bs++[!decide (V.int (i%(2+(j:Int)))=V.int 0)],?_,by simp [hbl],?_⟩,_,rfl⟩
     . rw [List.map_append]
       rfl
     . rw [List.all_append,Bool.and_eq_true,hba]
       constructor
       . rintro ⟨z1,z2⟩ m hm
         by_cases e:m=j
         . subst e
           simpa using z2
         . exact z1 m (by omega)
       . intro z
         refine⟨fun m hm=>z m (by omega),?_⟩
         have:=z j (by omega)
         simpa using this
   . rintro ys τ H1 ⟨_,s1,hD1,⟨bs,rfl,hbl,hba⟩,_⟩
     refine⟨D,bs,rfl,.of hD1,?_⟩
     refine k _ H1 s1 (hba.trans ⟨fun z=>⟨i,rfl,⟨by omega,fun q q2 qi=>?_⟩,h98⟩,fun ⟨p,ep,hp,_⟩ m hm=>?_⟩)
     . have:=z (q-2).toNat (by omega)
       rwa [show 2+(((q-2).toNat:Nat):Int)=q by omega] at this
     . cases ep
       exact hp.free (2+(m:Int)) (by omega) (by omega)
abbrev B1:Stmt:=Ma (top 45) 2
theorem No:FnScope ["self","sheet","edge","birth","ender","by"] ["self","sheet","edge"] (Aj B1):=⟨rfl,rfl,rfl,by decide +kernel,rfl,by decide +kernel,by decide +kernel⟩
theorem Cn:(["self","sheet","edge","birth","ender","by"]:List Str).Nodup:=by decide +kernel
theorem N1 {f:Addr}{fd:FuncData} (F:Fun K "settled" "Growth.settled" B1 f fd) (T:Txt K mg Al Ap Au Aw Af As Ao At A3 Ax Ag Ad Av A2 Ar Aq Ac) (Fr:Has P w K mg base "counted" ["chain","prime"] 1 (Kp K)) (Ib:Has P w K mg base "turned_over" ["number","prime"] 2 (Ww K)) (Af9:Has P w K mg base "plus" ["one","other"] 2 (m9 K)) (X8:Has P w K mg base "times" ["number","chain"] 1 (Wu K)):FnOk P w K mg base CX0 3 f fd ["self","sheet","edge"] (Jo K Ac):=by
 refine F.ok No (fun vs H Q E h=>?_) (fun Bw A outer s H vs Q E hr h=>?_)
 . obtain⟨g,pc,sh,ed,en,sa,ea,p,xs,es,ss,bs,ms,me,l,pq,rfl,x,hs,he,nse,nee,oks,oke,ks,ke,shx,nwk,hlq,k⟩:=h
   rfl
 . obtain⟨g,pc,sh,ed,en,sa,ea,p,xs,es,ss,bs,ms,me,l,pq,rfl,x,hs,he,nse,nee,oks,oke,ks,ke,shx,nwk,hlq,k⟩:=h
   have hu8:(A.deeper (PyProof.Rows.envOfC "Growth.settled" (Aj B1) s.heap.objs.size f Bw)).units+8<cLine:=by have:=hr.units;omega
   refine⟨_,(Ai (Ae7 PassesOwn.never (PW.pt (Oy (A7 Ba1 (A0 Th (by rfl) T.n_len PySem.boot_len (Aa (pv 2) Ah)) Ak (A9 _)) (Ly (A7 (Bq5 (u1 hu8)) (A0 (Tg (by rfl)) (by rfl) T.n_max Kk (Aa (pv 2) Ah)) (B6 (K:=K) (pv 0)) rfl)))) (Ai (A5 (i:=3) Cn (by rfl) (by first | exact Or.inl rfl | exact Or.inr rfl) (A0 (Tg (by rfl)) (by rfl) T.n_max Kk (Aa (pv 2) Ah)))
    (Ai (A5 (i:=4) Cn (by rfl) (by first | exact Or.inl rfl | exact Or.inr rfl) (Xk (u1 hu8) (B6 (K:=K) (pv 0)) (pv 3) (fun _ _=>rfl)))
    (Ai (A5 (i:=5) Cn (by rfl) (by first | exact Or.inl rfl | exact Or.inr rfl) (Bf op_mulX (Av6 Y3 (Xk (u1 hu8) (pv 2) (pv 3) (fun _ _=>rfl))) (A1 Ib hr (by rfl) (Aa (Xk (u1 hu8) (Bx (Bt (K:=K)) (B6 (K:=K) (pv 0)) (pv 4) (fun _ _=>rfl)) (pv 3) (fun _ _=>rfl)) (Aa (B6 (K:=K) (pv 0)) Ah)))))
    (Ai (A5 (i:=1) Cn (by rfl) (by first | exact Or.inl rfl | exact Or.inr rfl) (A1 Fr hr (by rfl) (Aa (A1 Af9 hr (by rfl) (Aa (pv 1) (Aa (A1 X8 hr (by rfl) (Aa (pv 5) (Aa (Bx (Bt (K:=K)) (B6 (K:=K) (pv 0)) (pv 4) (fun _ _=>rfl)) Ah))) Ah))) (Aa (B6 (K:=K) (pv 0)) Ah))))
    (Am (A5 (i:=2) Cn (by rfl) (by first | exact Or.inl rfl | exact Or.inr rfl) (A1 Fr hr (by rfl) (Aa (A1 Af9 hr (by rfl) (Aa (pv 2) (Aa (A1 X8 hr (by rfl) (Aa (pv 5) (Aa (Bx (Bt (K:=K)) (B6 (K:=K) (pv 0)) (pv 4) (fun _ _=>rfl)) Ah))) Ah))) (Aa (B6 (K:=K) (pv 0)) Ah))))))))))
    (Am (Bb (Cj (Aa (pv 1) (Aa (pv 2) Ah)))))),?_⟩
   obtain⟨dx,fs,hg,l1,l2,l3,l4,l5,lm⟩:=x.ob
   have hp2:=x.pr.1.two
   have hp98:=x.pr.2
   have n40:=x.gw.n40
   refine A6 (fun σ' H'=>∃ (s' e':Addr) (ms' me':Ms) (o3 o4 o5:Option V),σ'=[some (.ref g),some (.ref s'),some (.ref e'),o3,o4,o5]/\Same H H'/\H' s'=some (.dK (cK ms'))/\H' e'=some (.dK (cK me'))/\s'≠en/\e'≠en/\OkM p ms'/\OkM p me'/\(∀ x∈Bn ms',0<=x/\x<=(xs.length:Int))/\(∀ x∈Bn me',0<=x/\x<(xs.length:Int)/\(xs.getD x.toNat []).length-1+1=l)/\P1 p xs pq ms' me'/\(∀ b,Top me' b->lookI bs b=none)) ?_ fun key=>?_
   rotate_left
   . refine⟨fun m σ' H'=>∃ (s' e':Addr) (ms' me':Ms) (o3 o4 o5:Option V),σ'=[some (.ref g),some (.ref s'),some (.ref e'),o3,o4,o5]/\Same H H'/\H' s'=some (.dK (cK ms'))/\H' e'=some (.dK (cK me'))/\s'≠en/\e'≠en/\OkM p ms'/\OkM p me'/\(∀ x∈Bn ms',0<=x/\x<=(xs.length:Int))/\(∀ x∈Bn me',0<=x/\x<(xs.length:Int)/\(xs.getD x.toNat []).length-1+1=l)/\P1 p xs pq ms' me'/\∀ x∈Bn me',x<(m:Int),⟨xs.length,sa,ea,ms,me,none,none,none,rfl,Same.refl H,hs,he,nse,nee,oks,oke,ks,ke,nwk,fun x hx=>(ke x hx).2.1⟩,?_⟩
     rintro m σ G ⟨s',e',ms',me',o3,o4,o5,rfl,g1,hs',he',ns',ne',ok1,ok2,k1,k2,hem,hlt⟩
     have xg:=x.same g1
     have hgG:=g1 _ _ hg
     refine⟨_,rfl,e',cK me',rfl,he',_,_,rfl,rfl,_,rfl,?_⟩
     by_cases hz:me'=[]
     . subst hz
       refine ite2 (fun h1=>absurd h1 (by simp [cK])) (fun _=>?_)
       refine ifN (by simp) ?_
       exact key _ _ ⟨s',e',ms',[],o3,o4,o5,rfl,g1,hs',he',ns',ne',ok1,ok2,k1,k2,hem,fun b hb=>(Top.no hb).elim⟩
     have hlen:0<me'.length:=List.length_pos_iff.mpr hz
     refine ifP (by rw [O7];simpa using hlen) ?_
     refine⟨_,rfl,e',Bn me',cK me',rfl,he',Aa6 me',Aa5 hz,fun b hb1 hb2=>?_⟩
     have tb:Top me' b:=⟨hb1,hb2⟩
     refine⟨_,rfl,g,Ac,dx,fs,_,rfl,hgG,T.cl_Growth,T.na_Growth_enders,l5,en,cK bs,.inl b,rfl,xg.ens,rfl,_,rfl,?_⟩
     cases hlk:lookI bs b with
     | none =>
       refine ifN (by rw [Wc,hlk];simp) ?_
       exact key _ _ ⟨s',e',ms',me',o3,o4,o5,rfl,g1,hs',he',ns',ne',ok1,ok2,k1,k2,hem,fun b' hb'=>by rw [Top.one hb' tb];exact hlk⟩
     | some en0 =>
       refine ifP (by rw [Wc,hlk];rfl) ?_
       obtain⟨i,mi,rfl,hi,ti⟩:=(x.gw.bls b en0).mp hlk
       have hil:i<xs.length:=by rw [←x.gw.le];exact (List.getElem?_eq_some_iff.mp hi).1
       obtain⟨oki,kki⟩:=x.gw.eok i mi hi
       obtain⟨ds,d,hed,hdi,hd,nde⟩:=xg.eds.get hi
       obtain⟨si,hsi⟩:∃ si,ss[i]?=some si:=⟨_,List.getElem?_eq_getElem (by rw [x.gw.ls];exact hil)⟩
       obtain⟨okS,kS⟩:=x.gw.sok i si hsi
       obtain⟨cs,c,hsh,hci,hc,nc⟩:=xg.shs.get hsi
       obtain⟨q1,q2,q3⟩:=tb.look ok2
       obtain⟨r1,r2,r3⟩:=ti.look oki
       have hatd:atI (ds.map V.ref) (i:Int)=some (.ref d):=Ei (by rw [List.getElem?_map,hdi];rfl)
       have hatc:atI (cs.map V.ref) (i:Int)=some (.ref c):=Ei (by rw [List.getElem?_map,hci];rfl)
       have kS40:∀ x∈Bn si,0<=x/\x<=40:=fun x hx=>by have:=kS x hx;omega
       have kI40:∀ x∈Bn mi,0<=x/\x<=40:=fun x hx=>by have:=kki x hx;omega
       have k140:∀ x∈Bn ms',0<=x/\x<=40:=fun x hx=>by have:=k1 x hx;omega
       have k240:∀ x∈Bn me',0<=x/\x<=40:=fun x hx=>by have:=k2 x hx;omega
       refine⟨fun σ' H'=>∃ (s' e':Addr) (ms' me':Ms) (o3 o4 o5:Option V),σ'=[some (.ref g),some (.ref s'),some (.ref e'),o3,o4,o5]/\Same H H'/\H' s'=some (.dK (cK ms'))/\H' e'=some (.dK (cK me'))/\s'≠en/\e'≠en/\OkM p ms'/\OkM p me'/\(∀ x∈Bn ms',0<=x/\x<=(xs.length:Int))/\(∀ x∈Bn me',0<=x/\x<(xs.length:Int)/\(xs.getD x.toNat []).length-1+1=l)/\P1 p xs pq ms' me'/\∀ x∈Bn me',x<b,?_,?_⟩
       . rintro σ' G' ⟨s2,e2,ms2,me2,p3,p4,p5,rfl,t1,t2,t3,t4,t5,t6,t7,t8,t9,t10,t11⟩
         have b1:=hlt b tb.mem
         have b0:=(k2 b tb.mem).1
         exact ⟨b.toNat,by omega,s2,e2,ms2,me2,p3,p4,p5,rfl,t1,t2,t3,t4,t5,t6,t7,t8,t9,t10,fun x hx=>by have:=t11 x hx;omega⟩
       refine⟨_,rfl,e',Bn me',cK me',rfl,he',Aa6 me',Aa5 hz,fun b' hb1' hb2'=>?_⟩
       obtain rfl:b'=b:=Top.one ⟨hb1',hb2'⟩ tb
       refine⟨_,rfl,g,Ac,dx,fs,_,rfl,hgG,T.cl_Growth,T.na_Growth_enders,l5,_,rfl,en,.int (i:Int),rfl,Yj (.inl xg.ens) hlk,?_⟩
       refine⟨_,rfl,_,rfl,e',.int (getI me' b'),rfl,Yj (.inl he') q1,_,rfl,?_⟩
       refine⟨_,rfl,g,Ac,dx,fs,_,rfl,hgG,T.cl_Growth,T.na_Growth_edges,l4,_,rfl,ed,_,_,.ref d,rfl,rfl,.of hed,hatd,_,rfl,d,.int (getI mi b'),rfl,Yj (.inl hd) r1,_,rfl,g,Ac,dx,fs,_,rfl,hgG,T.cl_Growth,T.na_Growth_prime,l1,getI mi b',p,rfl,x.pr.1,x.pr.2,ndvd r2 r3,fun f G1 g2 f0 f1 hdv=>?_⟩
       refine⟨_,_,rfl,rfl,O1 (by omega) (by omega),?_⟩
       have hn:-(10000:Int) < -(getI me' b')*f/\-(getI me' b')*f<=0:=A75 q2 q3 f0 f1 hp98
       have ss1:=r6 (by omega) ok2 oki tb ti hdv
       have ss2:=e8 (p:=p) (n:=-(getI me' b')*f) (by omega) ok1 okS
       generalize hnn:-(getI me' b')*f=n at hn ss1 ss2
       have hsG:=g2 _ _ hs'
       have hcG:=g2 _ _ hc
       refine⟨_,rfl,_,rfl,_,rfl,g,Ac,dx,fs,_,rfl,g2 _ _ hgG,T.cl_Growth,T.na_Growth_sheets,l3,_,rfl,sh,_,_,_,rfl,rfl,.of (g2 _ _ hsh),hatc,n,c,si,(by rw [←hnn]<;>rfl),g2 _ _ hc,?_,fun q hq=>O1 (by omega) (by omega),fun TC1 GTC1 hTC1 gTC1 eTC1=>?_⟩
       . have:=F5 okS.nd kS40
         omega
       have ltC1:(Bq n si).length<=41:=Nat.le_trans (Y4 ..) (F5 okS.nd kS40)
       have lbC1:ms'.length<=41:=F5 ok1.nd k140
       have lpC1:=P6 (Bq n si) ms'
       have ntC1:nd (Bq n si):=P2 okS.nd
       obtain⟨npC1,_,_,_⟩:=L3 (Bq n si) ms' ok1.nd ok1.nz ntC1
       refine⟨s',TC1,ms',Bq n si,rfl,.inl (gTC1 _ _ (g2 _ _ hs')),eTC1,by omega,by omega,fun PC1 GPC1 hPC1 gPC1 ePC1=>?_⟩
       have gC1:=(g2.trans gTC1).trans gPC1
       refine⟨_,rfl,g,Ac,dx,fs,_,rfl,gC1 _ _ hgG,T.cl_Growth,T.na_Growth_prime,l1,PC1,_,p,rfl,ePC1,by omega,npC1,by omega,fun C1 GC1 hC1 ggC1 eC1=>?_⟩
       have g3:=gC1.trans ggC1
       refine⟨_,rfl,_,rfl,_,rfl,g,Ac,dx,fs,_,rfl,g3 _ _ hgG,T.cl_Growth,T.na_Growth_edges,l4,_,rfl,ed,_,_,_,rfl,rfl,.of (g3 _ _ hed),hatd,n,d,mi,(by rw [←hnn]<;>rfl),g3 _ _ hd,?_,fun q hq=>O1 (by omega) (by omega),fun TC2 GTC2 hTC2 gTC2 eTC2=>?_⟩
       . have:=F5 oki.nd kI40
         omega
       have ltC2:(Bq n mi).length<=41:=Nat.le_trans (Y4 ..) (F5 oki.nd kI40)
       have lbC2:me'.length<=41:=F5 ok2.nd k240
       have lpC2:=P6 (Bq n mi) me'
       have ntC2:nd (Bq n mi):=P2 oki.nd
       obtain⟨npC2,_,_,_⟩:=L3 (Bq n mi) me' ok2.nd ok2.nz ntC2
       refine⟨e',TC2,me',Bq n mi,rfl,.inl (gTC2 _ _ (g3 _ _ he')),eTC2,by omega,by omega,fun PC2 GPC2 hPC2 gPC2 ePC2=>?_⟩
       have gC2:=(g3.trans gTC2).trans gPC2
       refine⟨_,rfl,g,Ac,dx,fs,_,rfl,gC2 _ _ hgG,T.cl_Growth,T.na_Growth_prime,l1,PC2,_,p,rfl,ePC2,by omega,npC2,by omega,fun C2 GC2 hC2 ggC2 eC2=>?_⟩
       have g4:=gC2.trans ggC2
       have en1:=gC1 _ _ xg.ens
       have en2:=gC2 _ _ xg.ens
       have gg1:=((gTC2.trans gPC2).trans ggC2)
       refine⟨C1,C2,_,_,_,_,_,rfl,g1.trans g4,gg1 _ _ eC1,eC2,(A8 en1 hC1).symm,(A8 en2 hC2).symm,ss2.1,ss1.1,fun y hy=>?_,fun y hy=>?_,hem.step hp2 x.gw shx hsi hi ok1 ok2 (by have v:=(kki b' ti.mem).2.2;have w:=(k2 b' tb.mem).2.2;omega),fun y hy=>(ss1.2 y hy).1⟩
       . rcases ss2.2 y hy with z | z
         . exact k1 y z
         . have:=kS y z
           omega
       . rcases (ss1.2 y hy).2 with z | z
         . exact k2 y z
         . obtain⟨u1,u2,u3⟩:=kki y z
           obtain⟨v1,v2,v3⟩:=kki b' ti.mem
           obtain⟨w1,w2,w3⟩:=k2 b' tb.mem
           exact ⟨u1,by omega,by omega⟩
   rintro _ G ⟨s',e',ms',me',o3,o4,o5,rfl,g1,hs',he',ns',ne',ok1,ok2,k1,k2,hem,hno⟩
   refine⟨_,rfl,_,rfl,Bh (by simp),fun t ht=>?_⟩
   have st:Same G (upd G t (.tup [.ref s',.ref e'])):=Same.new ht
   exact k t s' e' ms' me' _ (g1.trans st) Ae (st _ _ hs') (st _ _ he') ns' ne' ok1 ok2 k1 k2 hno hem
abbrev Cy:Stmt:=Ma (top 45) 5
theorem Q0:FnScope ["self","place"] ["self","place"] (Aj Cy):=⟨rfl,rfl,rfl,by decide +kernel,rfl,by decide +kernel,by decide +kernel⟩
theorem Rk {f:Addr}{fd:FuncData} (F:Fun K "paper" "Growth.paper" Cy f fd) (T:Txt K mg Al Ap Au Aw Af As Ao At A3 Ax Ag Ad Av A2 Ar Aq Ac) (Bc:Has P w K mg base "is_whole_below" ["thing","bound"] 2 (Fi K)):FnOk P w K mg base (CX1 P w) 3 f fd ["self","place"] (Ql K Ac Ad):=by
 refine F.okX Q0 (fun vs H Q E h=>?_) (fun Bw A outer s H vs Q E hr h=>?_)
 . obtain⟨g,pc,sh,ed,en,v,e,p,xs,es,ss,bs,rfl,x,hv,kx,k⟩:=h
   rfl
 . obtain⟨g,pc,sh,ed,en,v,e,p,xs,es,ss,bs,rfl,x,hv,kx,k⟩:=h
   refine⟨_,(Ai (Bu (F2 (Dl (A1 Bc hr (by rfl) (Aa (pv 1) (Aa (A0 (Ay (K:=K)) (by rfl) T.n_len PySem.boot_len (Aa (B6 (K:=K) (pv 0)) Ah)) Ah))))) (Am (P4 Mt (by rfl) (by rfl) T.m_NoStage T.e_NoStage (Aa Vr Ah))) Be)
    (Am (Bb (Dm Wb (by rfl) T.n_dict Hg (Aa (Bx (Bt (K:=K)) (B6 (K:=K) (pv 0)) (pv 1) (fun _ _=>rfl)) Ah))))),?_⟩
   obtain⟨dx,fs,hg,l1,l2,l3,l4,l5,lm⟩:=x.ob
   obtain⟨us,hpc,r⟩:=x.pcs
   have hul:us.length=xs.length:=by have:=r.length;simpa using this
   refine⟨_,rfl,_,rfl,g,Ac,dx,fs,_,rfl,hg,T.cl_Growth,T.na_Growth_pieces,l2,pc,us,rfl,.inl (.of hpc),v,e,_,rfl,hv,_,rfl,?_⟩
   rw [hul]
   by_cases hb:B7 e (xs.length:Int)=true
   rotate_left
   . refine ifP (by simpa using hb) ?_
     exact ⟨Bh (by simp),kx hb H (Same.refl H)⟩
   rw [hb]
   refine ifN (by decide) ?_
   obtain⟨i',rfl,h0,h1⟩:=D4 hb
   obtain⟨i,rfl⟩:=Int.eq_ofNat_of_zero_le h0
   cases (show v=.int (i:Int) from hv)
   have hs:ss[i]?=some (ss.getD i []):=Be9 (by rw [x.gw.ls];omega)
   obtain⟨cs,c,hsh,hci,hc,nc⟩:=x.shs.get hs
   have hatc:atI (cs.map V.ref) (i:Int)=some (.ref c):=Ei (by rw [List.getElem?_map,hci];rfl)
   exact ⟨_,rfl,g,Ac,dx,fs,_,rfl,hg,T.cl_Growth,T.na_Growth_sheets,l3,_,rfl,sh,_,_,_,rfl,rfl,.of hsh,hatc,c,_,rfl,.inl hc,fun D hD=>k i _ rfl hs D _ hD (Same.new hD) Ae⟩
abbrev Ks:Stmt:=top 55
theorem At7:FnScope ["_law_pieces","_law_cell","_law_level_here","_law_faces","_law_j","_law_meet"] ["_law_pieces","_law_cell"] (Aj Ks):=⟨rfl,rfl,rfl,by decide +kernel,rfl,by decide +kernel,by decide +kernel⟩
theorem Gv:(["_law_pieces","_law_cell","_law_level_here","_law_faces","_law_j","_law_meet"]:List Str).Nodup:=by decide +kernel
theorem Aw5 {f:Addr}{fd:FuncData} (F:Fun K "_law_next" "_law_next" Ks f fd) (T:Txt K mg Al Ap Au Aw Af As Ao At A3 Ax Ag Ad Av A2 Ar Aq Ac) (X9:Has P w K mg base "_law_side" ["_law_pieces","_law_cell"] 2 (Qj K)) (Gz:Has P w K mg base "_law_meets" ["_law_pieces","_law_faces","_law_face"] 1 (Ml K)) (Id:Has P w K mg base "_law_pick" ["_law_cell","_law_j","_law_many"] 1 (Mo K)) (Dp:Has P w K mg base "_law_level" ["_law_piece"] 1 (Cc K)):FnOk P w K mg base CX0 3 f fd ["_law_pieces","_law_cell"] (Qk K):=by
 refine F.ok At7 (fun vs H Q E h=>?_) (fun Bw A outer s H vs Q E hr h=>?_)
 . obtain⟨a,xs,c,rfl,hL,hC,hxl,k⟩:=h
   rfl
 . obtain⟨a,xs,c,rfl,hL,hC,hxl,k⟩:=h
   refine⟨_,(Ai (A5 (i:=2) Gv (by rfl) (by first | exact Or.inl rfl | exact Or.inr rfl) (PEw.h (Bi0 (K:=K) (A95 (ns:=[0,1,1,2,1,2,3,2]) (by kernel_rfl)) (Bf Br (pv 1) Ak) (fun _ _=>rfl))))
    (Ai (A5 (i:=3) Gv (by rfl) (by first | exact Or.inl rfl | exact Or.inr rfl) (Cj Ah))
    (Ai (Bu (A7 Dk (pv 2) Ak (A9 _)) (Am (Bb (Cj Ah))) Be)
    (Ai (D1 PassesOwn.never rfl (Cu (by rfl) T.n_range (Aa (Bf Ew (pv 2) Ak) Ah)) (Bg (i:=4) Gv (by rfl) (by first | exact Or.inl rfl | exact Or.inr rfl)) (Ai (Xd (N':=["_law_face","_law_pieces","_law_level_here"]) (cap:=[none,some 0,some 2]) (i:=5) Gv (by rfl) (by first | exact Or.inl rfl | exact Or.inr rfl) (by rfl) (by kernel_rfl) (Cu (by rfl) T.n_range (Aa (A0 (Ay (K:=K)) (by rfl) T.n_len PySem.boot_len (Aa (pv 0) Ah)) Ah)) (fun _ _ _ _=>(Bg (i:=0) Bs4 (by rfl) (by first | exact Or.inl rfl | exact Or.inr rfl))) (fun _ _ _ _=>(F9 (A7 Dk (Bf Ew (A1 Dp hr (by rfl) (Aa (Bx (Bt (K:=K)) (pv 1) (pv 0) (fun _ _=>rfl)) Ah)) Ak) (pv 2) (A9 _)))) (fun _ _ _ _=>(pv 0)))
    (Ai (Xd (N':=["_law_face","_law_pieces","_law_faces"]) (cap:=[none,some 0,some 3]) (i:=5) Gv (by rfl) (by first | exact Or.inl rfl | exact Or.inr rfl) (by rfl) (by kernel_rfl) (C5 (K:=K) (pv 5)) (fun _ _ _ _=>(Bg (i:=0) Bs5 (by rfl) (by first | exact Or.inl rfl | exact Or.inr rfl))) (fun _ _ _ _=>(F9 (Dl (A1 Gz hr (by rfl) (Aa (pv 1) (Aa (pv 2) (Aa (pv 0) Ah))))))) (fun _ _ _ _=>(pv 0)))
    (Ai (Bu (A7 Dk (A0 (Ay (K:=K)) (by rfl) T.n_len PySem.boot_len (Aa (pv 5) Ah)) Ak (A9 _)) (Ai (Bu (PW.pt (Oy (A7 Ba1 (pv 2) Ak (A9 _)) (Ly (A7 Dk (pv 4) (pv 2) (A9 _))))) (Am (Bb (Dm (Ek (K:=K)) (by rfl) T.n_tuple Eg (Aa (Dj (N':=["_law_face","_law_pieces","_law_j"]) (cap:=[none,some 0,some 4]) (by rfl) (by kernel_rfl) (R6 (K:=K) (pv 3)) (fun _ _ _ _=>(Bg (i:=0) Bs6 (by rfl) (by first | exact Or.inl rfl | exact Or.inr rfl))) (fun _ _ _ _=>Fl) (fun _ _ _ _=>(Bx (Bm (K:=K)) (Bx (Bt (K:=K)) (pv 1) (pv 0) (fun _ _=>rfl)) (Bf Lb (pv 2) Ak) (fun _ _=>rfl)))) Ah)))) Be)
    (Am (Bb (A1 X9 hr (by rfl) (Aa (pv 0) (Aa (pv 1) Ah)))))) Be)
    (Am (A5 (i:=3) Gv (by rfl) (by first | exact Or.inl rfl | exact Or.inr rfl) (Bf (Mv (K:=K)) (pv 3) (Cj (Aa (Bx (Bt (K:=K)) (pv 5) (A1 Id hr (by rfl) (Aa (pv 1) (Aa (pv 4) (Aa (A0 (Ay (K:=K)) (by rfl) T.n_len PySem.boot_len (Aa (pv 5) Ah)) Ah)))) (fun _ _=>rfl)) Ah)))))))))
    (Am (Bb (pv 3))))))),?_⟩
   obtain⟨us,hq,ul⟩:=LT.len hL
   have p8:(0:Int)<8:=by decide
   have c0:=Int.emod_nonneg c (show (8:Int)≠0 by decide)
   have c1:=Int.emod_lt_of_pos c p8
   refine A6 (fun σ' H'=>∃ lh:Int,σ'=[some (.ref a),some (.int c),some (.int lh),none,none,none]/\Same H H'/\0<=lh/\lh<=3) ?_ fun key=>?_
   rotate_left
   . refine⟨Bh (by simp),fun T1 hT1=>?_⟩
     obtain⟨x,hx,x0,x1⟩:∃ x,atI (([0,1,1,2,1,2,3,2]:List Int).map V.int) (c%8)=some (.int x)/\0<=x/\x<=3:=by
      rcases (show c%8=0\/c%8=1\/c%8=2\/c%8=3\/c%8=4\/c%8=5\/c%8=6\/c%8=7 by omega) with e | e | e | e | e | e | e | e<;>rw [e]<;>exact ⟨_,rfl,by decide,by decide⟩
     refine⟨_,rfl,_,_,rfl,rfl,p8,T1,_,_,_,rfl,rfl,.of Ae,hx,?_⟩
     exact key _ _ ⟨x,rfl,Same.new hT1,x0,x1⟩
   rintro _ H1 ⟨lh,rfl,s1,l0,l3⟩
   refine A6 (fun σ' H'=>∃ F0:Addr,σ'=[some (.ref a),some (.int c),some (.int lh),some (.ref F0),none,none]/\Same H H'/\H' F0=some (.tup [])) ?_ fun key=>?_
   rotate_left
   . refine⟨Nat.zero_le _,fun F0 hF0=>?_⟩
     exact key _ _ ⟨F0,rfl,s1.trans (Same.new hF0),Ae⟩
   rintro _ H2 ⟨F0,rfl,s2,hF0⟩
   refine A6 (fun σ' H'=>σ'=[some (.ref a),some (.int c),some (.int lh),some (.ref F0),none,none]/\H2=H'/\¬lh=0) ?_ fun key=>?_
   rotate_left
   . refine⟨_,rfl,rfl,_,rfl,?_⟩
     refine ite2 (fun _=>?_) (fun h=>key _ _ ⟨rfl,rfl,by simpa using h⟩)
     refine⟨Nat.zero_le _,fun T1 hT1=>?_⟩
     exact k (.ref T1) [] _ (s2.trans (Same.new hT1)) (TI.mk (.of Ae))
   rintro _ _ ⟨rfl,rfl,hl0⟩
   refine⟨_,rfl,_,_,rfl,rfl,_,rfl,by omega,by omega,?_⟩
   refine C9 (lo:=0) (n:=(lh+1).toNat) (fun j σ G=>∃ (v:V) (fs:List Int) (o4 o5:Option V),σ=[some (.ref a),some (.int c),some (.int lh),some v,o4,o5]/\Same H G/\TI K G v fs/\fs.length=j/\(∀ x∈fs,0<=x/\x<(xs.length:Int)/\levI (xs.getD x.toNat []).length+1=lh))
    ⟨.ref F0,[],none,none,rfl,s2,TI.mk (.of hF0),rfl,fun x hx=>by cases hx⟩ ?_ ?_
   . rintro j σ G hj ⟨v,fs,o4,o5,rfl,g,tv,hfl,hfs⟩
     rw [show (0:Int)+(j:Int)=(j:Int) by omega]
     have hjl:(j:Int)<=lh:=by omega
     refine A6 (fun σ' H'=>∃ (M:Addr) (ms:List Int),σ'=[some (.ref a),some (.int c),some (.int lh),some v,some (.int (j:Int)),some (.ref M)]/\Same G H'/\H' M=some (.lst (ms.map V.int))/\ms.length<=1000/\∀ x∈ms,0<=x/\x<(xs.length:Int)/\levI (xs.getD x.toNat []).length+1=lh) ?_ fun key=>?_
     rotate_left
     . refine⟨_,rfl,a,us,rfl,.inl (g.seq hq),_,rfl,by omega,by omega,fun D hD=>?_⟩
       refine Fh (fun i ys τ G1=>Same G G1/\G1 D=some (.lst ys)/\(∃ ms:List Int,ys=ms.map V.int/\ms.length<=i/\∀ x∈ms,0<=x/\x<(xs.length:Int)/\levI (xs.getD x.toNat []).length+1=lh)/\∃ o,τ=[o,some (.ref a),some (.int lh)])
        ⟨Same.new hD,Ae,⟨[],rfl,Nat.le_refl _,fun x hx=>(by cases hx)⟩,none,rfl⟩ ?_ ?_
       . rintro i ys τ G1 hi ⟨g1,hDG,⟨ms,rfl,hml,hms⟩,o,rfl⟩
         rw [show (0:Int)+(i:Int)=(i:Int) by omega]
         have hi2:i<xs.length:=by omega
         obtain⟨u1,v1,hu1,av1,tv1⟩:=LT.get (i:=(i:Int)) (Rep.same (g.trans g1) hL) (by omega) (by omega)
         refine⟨_,rfl,_,rfl,a,u1,_,v1,rfl,rfl,hu1,av1,v1,nums _,rfl,.inr tv1,_,_,rfl,rfl,_,rfl,rfl,_,rfl,?_⟩
         rw [show (nums (xs.getD ((i:Int)).toNat [])).length=(xs.getD ((i:Int)).toNat []).length from List.length_map ..]
         refine ite2 (fun h1=>?_) (fun h1=>?_)
         . have e:levI (xs.getD ((i:Int)).toNat []).length+1=lh:=by
            by_cases z:levI (xs.getD ((i:Int)).toNat []).length+1=lh
            . exact z
            . exact absurd h1 (noI z)
           refine⟨_,rfl,hDG,Du (by rw [List.length_map];omega),g1.turn hD,Ae,⟨ms++[(i:Int)],by simp,by simp;omega,fun x hx=>?_⟩,_,rfl⟩
           rcases List.mem_append.mp hx with z | z
           . exact hms x z
           . rw [List.mem_singleton] at z
             subst z
             exact ⟨by omega,by omega,e⟩
         . exact ⟨g1,hDG,⟨ms,rfl,by omega,hms⟩,_,rfl⟩
       . rintro ys τ G1 ⟨g1,hDG,⟨ms,rfl,hml,hms⟩,_⟩
         exact key _ _ ⟨D,ms,rfl,g1,hDG,by omega,hms⟩
     rintro _ G1 ⟨M1,ms1,rfl,g1,hM1,hml1,hms1⟩
     have tv1:=TI.same g1 tv
     have gg1:=g.trans g1
     refine A6 (fun σ' H'=>∃ (M:Addr) (ms:List Int),σ'=[some (.ref a),some (.int c),some (.int lh),some v,some (.int (j:Int)),some (.ref M)]/\Same G1 H'/\H' M=some (.lst (ms.map V.int))/\ms.length<=1000/\∀ x∈ms,0<=x/\x<(xs.length:Int)/\levI (xs.getD x.toNat []).length+1=lh) ?_ fun key=>?_
     rotate_left
     . refine⟨_,rfl,M1,rfl,⟨_,.of hM1⟩,fun D hD=>?_⟩
       refine Mz (K:=K) (a:=M1) (xs:=ms1.map V.int) (fun i ys τ G2=>Same G1 G2/\G2 D=some (.lst ys)/\(∃ ms:List Int,ys=ms.map V.int/\ms.length<=i/\∀ x∈ms,0<=x/\x<(xs.length:Int)/\levI (xs.getD x.toNat []).length+1=lh)/\∃ o,τ=[o,some (.ref a),some v])
        ⟨Same.new hD,Ae,⟨[],rfl,Nat.le_refl _,fun x hx=>(by cases hx)⟩,none,rfl⟩ (fun i ys τ G2 _ ⟨g2,_⟩=>.of (g2 _ _ hM1)) ?_ ?_
       . rintro i y ys τ G2 hy ⟨g2,hDG,⟨ms,rfl,hml,hms⟩,o,rfl⟩
         have hi:i<ms1.length:=by have:=(List.getElem?_eq_some_iff.mp hy).1;simpa using this
         have hyv:y=.int ms1[i]:=by
          rw [List.getElem?_map,List.getElem?_eq_getElem hi] at hy
          simpa using hy.symm
         subst hyv
         obtain⟨x0,x1,x2⟩:=hms1 _ (List.getElem_mem hi)
         generalize ms1[i]=x at x0 x1 x2
         refine⟨_,rfl,_,rfl,_,rfl,a,v,xs,fs,x,rfl,Rep.same (gg1.trans g2) hL,TI.same g2 tv1,x0,x1,fun y hy=>⟨(hfs y hy).1,(hfs y hy).2.1⟩,by omega,(by
         have hcx:=hC.at x0 x1
         rw [C3] at x2
         by_cases hz:(xs.getD x.toNat []).length=0
         . exact .inl hz
         . refine .inr ⟨by omega,fun y hy=>?_⟩
           obtain⟨y0,y1,y2⟩:=hfs y hy
           have hcy:=hC.at y0 y1
           rw [C3] at y2
           omega),?_⟩
         refine⟨_,rfl,?_⟩
         refine ite2 (fun h1=>?_) (fun h1=>?_)
         . refine⟨_,rfl,hDG,Du (by rw [List.length_map];omega),g2.turn hD,Ae,⟨ms++[x],by simp,by simp;omega,fun y hy=>?_⟩,_,rfl⟩
           rcases List.mem_append.mp hy with z | z
           . exact hms y z
           . rw [List.mem_singleton] at z
             subst z
             exact ⟨x0,x1,x2⟩
         . exact ⟨g2,hDG,⟨ms,rfl,by omega,hms⟩,_,rfl⟩
       . rintro ys τ G2 ⟨g2,hDG,⟨ms,rfl,hml,hms⟩,_⟩
         rw [List.length_map] at hml
         exact key _ _ ⟨D,ms,rfl,g2,hDG,by omega,hms⟩
     rintro _ G2 ⟨M,ms,rfl,g2,hM,hml,hms⟩
     have gg:=gg1.trans g2
     have tv2:=TI.same g2 tv1
     have me:(ms.map V.int).length=ms.length:=List.length_map ..
     obtain⟨af,rfl,sqf⟩:=TI.sq tv2
     refine A6 (fun σ' H'=>σ'=[some (.ref a),some (.int c),some (.int lh),some (.ref af),some (.int (j:Int)),some (.ref M)]/\G2=H'/\0<(ms.length:Int)) ?_ fun key=>?_
     rotate_left
     . refine⟨_,rfl,M,_,rfl,.inl (.of hM),rfl,_,rfl,?_⟩
       rw [me]
       refine ite2 (fun h1=>?_) (fun h1=>?_)
       rotate_left
       . have:¬ms.length=0:=fun z=>h1 (by rw [z];rfl)
         exact key _ _ ⟨rfl,rfl,by omega⟩
       refine⟨_,rfl,_,_,rfl,rfl,_,rfl,?_⟩
       refine ite2 (fun h2=>?_) (fun h2=>?_)
       rotate_left
       . refine ifN (by simp) ?_
         exact ⟨_,rfl,_,rfl,a,xs,c,rfl,Rep.same gg hL,hxl,fun w p H' s' tw=>k w p H' (gg.trans s') tw⟩
       refine⟨_,rfl,_,rfl,rfl,_,rfl,?_⟩
       refine ite2 (fun h3=>?_) (fun h3=>?_)
       rotate_left
       . exact ⟨_,rfl,_,rfl,a,xs,c,rfl,Rep.same gg hL,hxl,fun w p H' s' tw=>k w p H' (gg.trans s') tw⟩
       have hlh:1<lh:=by simpa using h2
       have hje:(j:Int)=lh:=by simpa using h3
       refine⟨_,rfl,af,rfl,⟨_,sqf⟩,fun D hD=>?_⟩
       refine Ta (K:=K) (a:=af) (xs:=fs.map V.int) (fun i ys τ G3=>Same G2 G3/\G3 D=some (.lst ys)/\(∃ ps:List Int,ys=ps.map V.int/\ps.length<=i)/\∃ o,τ=[o,some (.ref a),some (.int (j:Int))])
        ⟨Same.new hD,Ae,⟨[],rfl,Nat.le_refl _⟩,none,rfl⟩ (fun i ys τ G3 _ ⟨g3,_⟩=>g3.seqT sqf) ?_ ?_
       . rintro i y ys τ G3 hy ⟨g3,hDG,⟨ps,rfl,hpl⟩,o,rfl⟩
         have hi:i<fs.length:=by have:=(List.getElem?_eq_some_iff.mp hy).1;simpa using this
         have hyv:y=.int fs[i]:=by
          rw [List.getElem?_map,List.getElem?_eq_getElem hi] at hy
          simpa using hy.symm
         subst hyv
         obtain⟨x0,x1,x2⟩:=hfs _ (List.getElem_mem hi)
         generalize fs[i]=x at x0 x1 x2
         have hcx:=hC.at x0 x1
         rw [C3] at x2
         obtain⟨u1,v1,hu1,av1,tv1'⟩:=LT.get (Rep.same (gg.trans g3) hL) x0 x1
         obtain⟨b1,rfl,hb1⟩:=tv1'.sq
         refine⟨_,rfl,_,rfl,a,u1,_,_,rfl,rfl,hu1,av1,_,rfl,_,_,rfl,rfl,b1,_,_,_,rfl,rfl,hb1,O8 (by omega) (by omega),hDG,Du (by rw [List.length_map];omega),g3.turn hD,Ae,⟨ps++[_],by rw [List.map_append];rfl,by simp;omega⟩,_,rfl⟩
       . rintro ys τ G3 ⟨g3,hDG,⟨ps,rfl,hpl⟩,_⟩
         refine⟨D,_,rfl,.inl ⟨.of hDG,fun T1 hT1=>?_⟩⟩
         exact k (.ref T1) ps _ ((gg.trans g3).trans (Same.new hT1)) (TI.mk (.of Ae))
     rintro _ _ ⟨rfl,rfl,hpos⟩
     refine⟨_,rfl,_,rfl,_,rfl,_,rfl,_,rfl,M,_,rfl,.inl (.of hM),_,_,_,rfl,by rw [me];exact hpos,fun r G4 g4 r0 r1=>?_⟩
     rw [me] at r1
     have hmm:ms.getD r.toNat 0∈ms:=Ef (by omega)
     have hmr:=hms _ hmm
     refine⟨M,_,_,_,rfl,rfl,.of (g4 _ _ hM),O8 r0 r1,Bh (by simp),fun pt hpt=>?_⟩
     generalize ms.getD r.toNat 0=q at hmr
     have s3:Same G4 (upd G4 pt (.tup [.int q])):=Same.new hpt
     refine⟨af,pt,_,_,rfl,rfl,(g4.trans s3).seqT sqf,.of Ae,Bh (by simp;omega),fun p3 H3 s4 q3=>?_⟩
     refine⟨.ref p3,fs++[q],_,_,rfl,((gg.trans g4).trans s3).trans s4,TI.mk ?_,by simp [hfl],fun x hx=>?_⟩
     . rw [List.map_append]
       exact q3
     . rcases List.mem_append.mp hx with z | z
       . exact hfs x z
       . rw [List.mem_singleton] at z
         subst z
         exact hmr
   . rintro σ G ⟨v,fs,o4,o5,rfl,g,tv,hfl,hfs⟩
     exact ⟨_,rfl,k v fs G g tv⟩
abbrev C7:Stmt:=top 59
theorem Xa:FnScope ["_law_kind","_law_cells","_law_most","_law_family","_law_words","_law_cell","_law_more"] ["_law_kind","_law_cells","_law_most"] (Aj C7):=⟨rfl,rfl,rfl,by decide +kernel,rfl,by decide +kernel,by decide +kernel⟩
theorem Cs:(["_law_kind","_law_cells","_law_most","_law_family","_law_words","_law_cell","_law_more"]:List Str).Nodup:=by decide +kernel
theorem Xo {f:Addr}{fd:FuncData} (F:Fun K "_law_shape_by" "_law_shape_by" C7 f fd) (T:Txt K mg Al Ap Au Aw Af As Ao At A3 Ax Ag Ad Av A2 Ar Aq Ac) (Gb:Has P w K mg base "_law_words_with" ["_law_words","_law_word","_law_family"] 2 (Fj K)) (Mc:Has P w K mg base "_law_word_by" ["_law_cell","_law_family","_law_letters"] 1 (Jl K)) (D3:Has P w K mg base "_law_faces_by" ["_law_word","_law_family"] 1 (E7 K)):FnOk P w K mg base CX0 3 f fd ["_law_kind","_law_cells","_law_most"] (Lv K):=by
 refine F.ok Xa (fun vs H Q E h=>?_) (fun Bw A outer s H vs Q E hr h=>?_)
 . obtain⟨a,ns,kind,most,rfl,hS,hl,hm0,hm1,k⟩:=h
   rfl
 . obtain⟨a,ns,kind,most,rfl,hS,hl,hm0,hm1,k⟩:=h
   have hu8:(A.deeper (PyProof.Rows.envOfC "_law_shape_by" (Aj C7) s.heap.objs.size f Bw)).units+8<cLine:=by have:=hr.units;omega
   refine⟨_,(Ai (A5 (i:=3) Cs (by rfl) (by first | exact Or.inl rfl | exact Or.inr rfl) Ak)
    (Ai (Bu (A7 Dk (Bf Br (pv 0) Ak) Ak (A9 _)) (Am (A5 (i:=3) Cs (by rfl) (by first | exact Or.inl rfl | exact Or.inr rfl) (Av6 Y3 Ak))) Be)
    (Ai (Bu (A7 Dk (Bf Br (pv 0) Ak) Ak (A9 _)) (Am (A5 (i:=3) Cs (by rfl) (by first | exact Or.inl rfl | exact Or.inr rfl) (Bf Ew Ak (Bf Br (Bf C8 (pv 0) Ak) Ak)))) Be)
    (Ai (A5 (i:=4) Cs (by rfl) (by first | exact Or.inl rfl | exact Or.inr rfl) (Cl Ah))
    (Ai (D1 PassesOwn.never rfl (C5 (K:=K) (pv 1)) (Bg (i:=5) Cs (by rfl) (by first | exact Or.inl rfl | exact Or.inr rfl)) (Ai (A5 (i:=6) Cs (by rfl) (by first | exact Or.inl rfl | exact Or.inr rfl) (A1 Gb hr (by rfl) (Aa (pv 4) (Aa (A1 Mc hr (by rfl) (Aa (pv 5) (Aa (pv 3) (Aa (Bf Ew Ak (Bf Br (Bf C8 (pv 0) Ak) Ak)) Ah)))) (Aa (pv 3) Ah)))))
    (Am (Bu (A7 Ba0 (A0 (Ay (K:=K)) (by rfl) T.n_len PySem.boot_len (Aa (pv 6) Ah)) (pv 2) (A9 _)) (Am (A5 (i:=4) Cs (by rfl) (by first | exact Or.inl rfl | exact Or.inr rfl) (pv 6))) Be))))
    (Am (Bb (Dj (N':=["_law_word","_law_family","_law_words"]) (cap:=[none,some 3,some 4]) (by rfl) (by kernel_rfl) (C5 (K:=K) (pv 4)) (fun _ _ _ _=>(Bg (i:=0) Bs1 (by rfl) (by first | exact Or.inl rfl | exact Or.inr rfl))) (fun _ _ _ _=>Fl) (fun _ _ _ _=>(Dm (Ek (K:=K)) (by rfl) T.n_tuple Eg (Aa (Dj (N':=["_law_face","_law_words"]) (cap:=[none,some 2]) (by rfl) (by kernel_rfl) (C5 (K:=K) (A1 D3 hr (by rfl) (Aa (pv 0) (Aa (pv 1) Ah)))) (fun _ _ _ _=>(Bg (i:=0) Bs0 (by rfl) (by first | exact Or.inl rfl | exact Or.inr rfl))) (fun _ _ _ _=>Fl) (fun _ _ _ _=>(Le (K:=K) PySem.F.plainAttrs_list PySem.F.slot_list_index PySem.F.type_list_index (Az3 (K:=K) hu8) (pv 1) (Aa (pv 0) Ah)))) Ah))))))))))),?_⟩
   refine A6 (fun σ' H'=>σ'=[some (.int kind),some (.ref a),some (.int most),some (.int 0),none,none,none]/\H=H') ?_ fun key0=>key0 _ _ ⟨rfl,rfl⟩
   rintro _ _ ⟨rfl,rfl⟩
   refine A6 (fun σ' H'=>∃ fam:Int,σ'=[some (.int kind),some (.ref a),some (.int most),some (.int fam),none,none,none]/\H=H'/\fam<100) ?_ fun key1=>?_
   rotate_left
   . refine⟨_,rfl,_,_,rfl,rfl,(by show (0:Int)<3;decide),rfl,_,rfl,?_⟩
     refine ite2 (fun _=>?_) (fun _=>?_)
     . exact ⟨_,rfl,key1 _ _ ⟨-1,rfl,rfl,by decide⟩⟩
     . exact key1 _ _ ⟨0,rfl,rfl,by decide⟩
   rintro _ _ ⟨fam0,rfl,rfl,hf0⟩
   refine A6 (fun σ' H'=>∃ fam:Int,σ'=[some (.int kind),some (.ref a),some (.int most),some (.int fam),none,none,none]/\H=H'/\fam<100) ?_ fun key2=>?_
   rotate_left
   . refine⟨_,rfl,_,_,rfl,rfl,(by show (0:Int)<3;decide),rfl,_,rfl,?_⟩
     refine ite2 (fun _=>?_) (fun _=>?_)
     . refine⟨_,rfl,_,_,rfl,rfl,⟨by decide,by decide⟩,_,_,rfl,rfl,(by show (0:Int)<19;decide),_,_,rfl,rfl,key2 _ _ ⟨_,rfl,rfl,?_⟩⟩
       have:kind / 18%19<19:=Int.emod_lt_of_pos _ (by decide)
       omega
     . exact key2 _ _ ⟨fam0,rfl,rfl,hf0⟩
   rintro _ _ ⟨fam,rfl,rfl,hf⟩
   have l1:0<=kind / 3%6:=Int.emod_nonneg _ (by decide)
   have l2:kind / 3%6<6:=Int.emod_lt_of_pos _ (by decide)
   refine⟨Nat.zero_le _,fun W0 hW0=>?_⟩
   have s0:Same H (upd H W0 (.lst [])):=Same.new hW0
   refine⟨_,rfl,a,rfl,⟨_,s0.seq hS⟩,for_list (K:=K) (a:=a) (xs:=ns.map V.int)
    (fun j σ H2=>∃ (W:Addr) (wu:List V) (ws:List (List Int)) (o5 o6:Option V),σ=[some (.int kind),some (.ref a),some (.int most),some (.int fam),some (.ref W),o5,o6]/\Same H H2/\H W=none/\H2 W=some (.lst wu) ∧
      Reps K H2 wu (ws.map tI)/\Ord fam ws/\(ws.length:Int)<=most)
    ⟨W0,[],[],none,none,rfl,s0,hW0,Ae,rfl,Ord.nil,by simpa using hm0⟩ (fun j σ H2 _ ⟨_,_,_,_,_,_,s2,_⟩=>s2.seq hS) ?_ ?_⟩
   . rintro j x σ H2 hx ⟨W,wu,ws,o5,o6,rfl,s2,hW,hW2,rW,hO,hwl⟩
     have hjn:j<ns.length:=by have:=(List.getElem?_eq_some_iff.mp hx).1;simpa using this
     have hxv:x=.int ns[j]:=by
      rw [List.getElem?_map,List.getElem?_eq_getElem hjn] at hx
      simpa using hx.symm
     subst hxv
     refine⟨_,rfl,_,rfl,_,rfl,_,rfl,_,_,rfl,rfl,⟨by decide,by decide⟩,_,_,rfl,rfl,(by show (0:Int)<6;decide),_,_,rfl,rfl,?_⟩
     refine⟨_,_,_,rfl,by omega,by omega,by omega,fun v H3 w s3 tv hw=>?_⟩
     refine⟨_,rfl,?_⟩
     refine⟨W,wu,v,ws,w,fam,rfl,s3 _ _ hW2,Reps.same s3 rW,tv,hw,by omega,fun M mu H4 hM s4 hM4 rM=>?_⟩
     have s24:=s3.trans s4
     have hMH:H M=none:=(s2.trans s3).free hM
     have mul:mu.length=(Mj ws w fam).length:=by have:=rM.length;simpa using this
     refine⟨_,rfl,M,_,rfl,.inl (.of hM4),_,rfl,_,_,rfl,rfl,_,rfl,?_⟩
     refine ite2 (fun h1=>?_) (fun h1=>?_)
     . have h2:(mu.length:Int)<=most:=by simpa using h1
       exact ⟨_,rfl,M,mu,Mj ws w fam,_,_,rfl,s2.trans s24,hMH,hM4,rM,Wp hO hw,by omega⟩
     . exact ⟨W,wu,ws,_,_,rfl,s2.trans s24,hW,s24 _ _ hW2,Reps.same s24 rW,hO,hwl⟩
   . rintro σ H2 ⟨W,wu,ws,o5,o6,rfl,s2,hW,hW2,rW,hO,hwl⟩
     have wul:wu.length=ws.length:=by have:=rW.length;simpa using this
     refine⟨_,rfl,W,rfl,⟨_,.of hW2⟩,fun D hD=>?_⟩
     have hDH:H D=none:=s2.free hD
     refine Vz (K:=K) (a:=W) (xs:=wu) (fun i ys τ H1=>Same H2 H1/\H1 D=some (.lst ys)/\Reps K H1 ys (((ws.take i).map fun w=>(Az w fam).map fun f=>(idx ws f:Int)).map tI)/\∃ o,τ=[o,some (.int fam),some (.ref W)])
      ⟨Same.new hD,Ae,rfl,none,rfl⟩ (fun i ys τ H1 _ ⟨s1,_⟩=>.of (s1 _ _ hW2)) ?_ ?_
     . rintro i x ys τ H1 hx ⟨s1,hD1,r1,o,rfl⟩
       have hi:i<wu.length:=(List.getElem?_eq_some_iff.mp hx).1
       have hil:i<ws.length:=by omega
       have hix:(ws.map tI)[i]?=some (tI ws[i]):=by rw [List.getElem?_map,List.getElem?_eq_getElem hil];rfl
       obtain⟨x',hx',tx⟩:=rW.get hix
       rw [hx] at hx'
       cases hx'
       obtain⟨hwi,hfi⟩:=hO.mem (List.getElem_mem hil)
       generalize hwe:ws[i]=w at tx hwi hfi
       refine⟨_,rfl,_,rfl,x,w,fam,rfl,TI.same s1 tx,hwi,fun p fu H3 hp s3 hp3 r3=>?_⟩
       have ful:fu.length=(Az w fam).length:=by have:=r3.length;simpa using this
       have s13:=s1.trans s3
       refine⟨p,rfl,⟨_,.of hp3⟩,fun D2 hD2=>?_⟩
       refine Vz (K:=K) (a:=p) (xs:=fu) (fun m zs τ H4=>Same H3 H4/\H4 D2=some (.lst zs)/\zs=((Az w fam).take m).map (fun f=>V.int (idx ws f:Int))/\∃ o,τ=[o,some (.ref W)])
        ⟨Same.new hD2,Ae,rfl,none,rfl⟩ (fun m zs τ H4 _ ⟨s4,_⟩=>.of (s4 _ _ hp3)) ?_ ?_
       . rintro m y zs τ H4 hy ⟨s4,hD4,hzs,o,rfl⟩
         have hm:m<fu.length:=(List.getElem?_eq_some_iff.mp hy).1
         have hmf:m<(Az w fam).length:=by omega
         have hmy:((Az w fam).map tI)[m]?=some (tI (Az w fam)[m]):=by rw [List.getElem?_map,List.getElem?_eq_getElem hmf];rfl
         obtain⟨y',hy',ty⟩:=r3.get hmy
         rw [hy] at hy'
         cases hy'
         have hfm:(Az w fam)[m]∈ws:=hfi _ (List.getElem_mem _)
         have s14:=s13.trans s4
         have rw4:Rep K H4 (.ref W) (.lst (ws.map tI)):=⟨W,wu,rfl,.of (s14 _ _ hW2),Reps.same s14 rW⟩
         have hfl:=(G6 hwi)
         have hzl:zs.length<=4:=by
          rw [hzs,List.length_map,List.length_take]
          have:=hfl.2
          have:=hfl.1
          split at this<;>omega
         refine⟨_,rfl,.inl ⟨rfl,_,.of (s14 _ _ hW2)⟩,_,rfl,ws.map tI,y,tI (Az w fam)[m],idx ws (Az w fam)[m],rfl,rw4,TI.same s4 ty,(by have:=My ws;omega),Ao8 hfm,?_⟩
         refine⟨hD4,Du (by omega),s4.turn hD2,Ae,?_,_,rfl⟩
         rw [List.take_succ,List.getElem?_eq_getElem hmf,List.map_append,hzs]
         rfl
       . rintro zs τ H4 ⟨s4,hD4,hzs,_⟩
         rw [ful,List.take_length] at hzs
         have s14:=s13.trans s4
         refine⟨D2,_,rfl,.inl ⟨.of hD4,fun T hT=>?_⟩⟩
         have s5:Same H4 (upd H4 T (.tup zs)):=Same.new hT
         have hD5:=(s3.trans (s4.trans s5)) _ _ hD1
         have t5:TI K (upd H4 T (.tup zs)) (.ref T) ((Az w fam).map fun f=>(idx ws f:Int)):=by
          refine TI.mk (.of ?_)
          rw [List.map_map,Ae,hzs]
          rfl
         have hyl:ys.length=i:=by have:=r1.length;simp at this;omega
         refine⟨hD5,Du (by omega),(s14.trans s5).turn hD,Ae,?_,_,rfl⟩
         have e2:(ws.take (i+1)).map (fun w=>(Az w fam).map fun f=>(idx ws f:Int))=(ws.take i).map (fun w=>(Az w fam).map fun f=>(idx ws f:Int))++[(Az w fam).map fun f=>(idx ws f:Int)]:=by
          rw [List.take_succ,List.getElem?_eq_getElem hil,hwe,List.map_append]
          rfl
         rw [e2]
         exact Ht hD5 (Reps.same (s3.trans (s4.trans s5)) r1) t5
     . rintro ys τ H1 ⟨s1,hD1,r1,_⟩
       rw [wul,List.take_length] at r1
       exact k D ys H1 (Lx ws fam) hDH (s2.trans s1) hD1 r1 (W7 hO) (by unfold Lx;rw [List.length_map];exact hwl)
abbrev Df:Stmt:=top 66
theorem T9:FnScope ["_law_pieces","_law_pairs","_law_k","_law_stage","_law_many","_law_born","_law_end"] ["_law_pieces","_law_pairs","_law_k","_law_stage"] (Aj Df):=⟨rfl,rfl,rfl,by decide +kernel,rfl,by decide +kernel,by decide +kernel⟩
theorem Dn:(["_law_pieces","_law_pairs","_law_k","_law_stage","_law_many","_law_born","_law_end"]:List Str).Nodup:=by decide +kernel
theorem Uk {f:Addr}{fd:FuncData} (F:Fun K "_law_due_alive" "_law_due_alive" Df f fd) (T:Txt K mg Al Ap Au Aw Af As Ao At A3 Ax Ag Ad Av A2 Ar Aq Ac) (Bo:Has P w K mg base "_law_is_from_to" ["_law_thing","_law_low","_law_high"] 2 (Mn K)) (Em:Has P w K mg base "_law_only" ["_law_at"] 1 (Mm K)) (Dp:Has P w K mg base "_law_level" ["_law_piece"] 1 (Cc K)):FnOk P w K mg base CX0 3 f fd ["_law_pieces","_law_pairs","_law_k","_law_stage"] (Wy K):=by
 refine F.ok T9 (fun vs H Q E h=>?_) (fun Bw A outer s H vs Q E hr h=>?_)
 . obtain⟨a,b,vk,vst,ek,est,p,xs,es,ss,bs,rfl,hL,hB,gw,hk,hst,k⟩:=h
   rfl
 . obtain⟨a,b,vk,vst,ek,est,p,xs,es,ss,bs,rfl,hL,hB,gw,hk,hst,k⟩:=h
   refine⟨_,(Ai (Bu (F2 (Dl (A1 Bo hr (by rfl) (Aa (pv 2) (Aa Ak (Aa Ak Ah)))))) (Am (Bb (Cj (Aa (A1 Em hr (by rfl) (Aa Ak Ah)) (Aa Ev Ah))))) Be)
    (Ai (Bu (A7 Rc (pv 3) Ev (A9 _)) (Am (A5 (i:=3) Dn (by rfl) (by first | exact Or.inl rfl | exact Or.inr rfl) (A0 (Ay (K:=K)) (by rfl) T.n_len PySem.boot_len (Aa (pv 0) Ah)))) Be)
    (Ai (Bu (F2 (Dl (A1 Bo hr (by rfl) (Aa (pv 3) (Aa Ak (Aa (A0 (Ay (K:=K)) (by rfl) T.n_len PySem.boot_len (Aa (pv 0) Ah)) Ah)))))) (Am (Bb (Cj (Aa (A1 Em hr (by rfl) (Aa Ak Ah)) (Aa Ev Ah))))) Be)
    (Ai (A5 (i:=4) Dn (by rfl) (by first | exact Or.inl rfl | exact Or.inr rfl) Ak)
    (Ai (D1 PassesOwn.never rfl (C5 (K:=K) (pv 1)) (L8 (K:=K) (n:=2) (by rfl) (C4 (Bg (i:=5) Dn (by rfl) (by first | exact Or.inl rfl | exact Or.inr rfl)) (C4 (Bg (i:=6) Dn (by rfl) (by first | exact Or.inl rfl | exact Or.inr rfl)) L4))) (Am (Bu (PW.pt (Oy (A7 Dk (A1 Dp hr (by rfl) (Aa (Bx (Bt (K:=K)) (pv 0) (pv 5) (fun _ _=>rfl)) Ah)) (pv 2) (A9 _)) (Oy (A7 Nw (pv 5) (pv 3) (A9 _)) (Ly (PW.pt (Aj8 (A7 Rc (pv 6) Ev (A9 _)) (Zf (A7 Bi6 (pv 6) (pv 3) (A9 _))))))))) (Am (Bp8 (i:=4) Dn (by rfl) (by first | exact Or.inl rfl | exact Or.inr rfl) Ak Bt4)) Be)))
    (Am (Bb (Cj (Aa (Cl Ah) (Aa (pv 4) Ah)))))))))),?_⟩
   obtain⟨_,us,z,hqa,ra⟩:=id hL
   cases z
   have usl:us.length=xs.length:=by have:=ra.length;simpa using this
   obtain⟨_,ws,z,hqb,rb⟩:=id hB
   cases z
   have hel:=gw.le
   have wl:ws.length=(C6 es es.length).length:=by rw [rb.length];exact List.length_map ..
   have bad:∀ (n:Int) (t M:Addr) (G:Hp),G M=some (.lst ((Nx n).map V.bl))->G t=some (.tup [.ref M,.non])->Rep K G (.ref t) (.tup [blD (Nx n),.non]):=fun n t M G h1 h2=>⟨t,_,rfl,.of h2,⟨_,_,rfl,Nq h1,⟨_,_,rfl,rfl,rfl⟩⟩⟩
   refine⟨_,rfl,vk,ek,0,3,rfl,hk,_,rfl,?_⟩
   rw [show Yb ek 0 3=B7 ek 4 from Oe ek 3]
   by_cases hb:B7 ek 4=true
   rotate_left
   . refine ifP (by simpa using hb) ?_
     refine⟨4,rfl,fun M H1 s1 hM=>⟨Bh (by simp),fun t ht=>?_⟩⟩
     have s2:=Same.new (o:=.tup [.ref M,.non]) ht
     refine k _ _ (s1.trans s2) ?_
     unfold dueA
     rw [if_neg hb]
     exact bad 4 t M _ (s2 _ _ hM) Ae
   rw [hb]
   refine ifN (by decide) ?_
   obtain⟨kk,rfl,k0,k4⟩:=D4 hb
   cases (show vk=.int kk from hk)
   refine A6 (fun σ' H'=>σ'=[some (.ref a),some (.ref b),some (.int kk),some vst,none,none,none]/\H=H') ?_ fun key0=>key0 _ _ ⟨rfl,rfl⟩
   rintro _ _ ⟨rfl,rfl⟩
   refine A6 (t:=tIfS _ _ _) (fun σ' H'=>∃ (v2:V) (e2:DE),σ'=[some (.ref a),some (.ref b),some (.int kk),some v2,none,none,none]/\H=H'/\RepE K H v2 e2/\((est=.d .non/\e2=.d (.int (xs.length:Int)))\/(¬est=.d .non/\e2=est))) ?_ fun key=>?_
   rotate_left
   . refine⟨_,rfl,rfl,_,rfl,?_⟩
     by_cases hn:vst=.non
     . refine ifP (by simp [hn]) ?_
       subst hn
       refine⟨_,rfl,a,us,rfl,.inl hqa,?_⟩
       rw [usl]
       exact key _ _ ⟨_,.d (.int (xs.length:Int)),rfl,rfl,rfl,.inl ⟨Au2 hst,rfl⟩⟩
     . refine ifN (by simpa using hn) ?_
       exact key _ _ ⟨_,est,rfl,rfl,hst,.inr ⟨fun z=>hn (by rw [z] at hst;exact hst),rfl⟩⟩
   rintro _ _ ⟨v2,e2,rfl,rfl,h2,hcase⟩
   refine⟨_,rfl,_,rfl,a,us,rfl,.inl hqa,v2,e2,0,_,rfl,h2,_,rfl,?_⟩
   rw [usl,show Yb e2 0 (xs.length:Int)=B7 e2 ((xs.length:Int)+1) from Oe e2 _]
   by_cases hb2:B7 e2 ((xs.length:Int)+1)=true
   rotate_left
   . refine ifP (by simpa using hb2) ?_
     refine⟨11,rfl,fun M H1 s1 hM=>⟨Bh (by simp),fun t ht=>?_⟩⟩
     have s2:=Same.new (o:=.tup [.ref M,.non]) ht
     refine k _ _ (s1.trans s2) ?_
     have hn:¬est=.d .non/\e2=est:=by
      rcases hcase with ⟨_,z⟩ | z
      . exact absurd (by rw [z];exact Hh (by omega) (by omega)) hb2
      . exact z
     obtain⟨hn1,rfl⟩:=hn
     have e:dueA xs es bs (.d (.int kk)) e2=.tup [blD (Nx 11),.non]:=by
      unfold dueA
      rw [if_pos hb]
      cases e2 with
      | nul=>rfl
      | d d=>cases d<;>first | exact absurd rfl hn1 | exact if_neg hb2
     rw [e]
     exact bad 11 t M _ (s2 _ _ hM) Ae
   rw [hb2]
   refine ifN (by decide) ?_
   obtain⟨st,rfl,t0,t1⟩:=D4 hb2
   cases (show v2=.int st from h2)
   have hdue:dueA xs es bs (.d (.int kk)) est=.tup [.lst [],.int (F7 xs es bs kk st:Nat)]:=by
    unfold dueA
    rw [if_pos hb]
    rcases hcase with ⟨z1,z2⟩|⟨z1,z2⟩
    . cases z2
      rw [z1]
    . cases z2
      exact if_pos hb2
   rw [hdue] at k
   refine A6 (fun σ' H'=>σ'=[some (.ref a),some (.ref b),some (.int kk),some (.int st),none,none,none]/\H=H') ?_ fun key0=>key0 _ _ ⟨rfl,rfl⟩
   rintro _ _ ⟨rfl,rfl⟩
   refine Qc [some (.ref a),some (.ref b),some (.int kk),some (.int st),some (.int 0),none,none] H (fun _ h=>h) ?_
   refine A6 (fun σ' H'=>∃ (o5 o6:Option V),σ'=[some (.ref a),some (.ref b),some (.int kk),some (.int st),some (.int (F7 xs es bs kk st:Nat)),o5,o6]/\H=H') ?_ fun key=>?_
   rotate_left
   . refine⟨_,rfl,b,rfl,⟨_,hqb⟩,?_⟩
     refine for_list (K:=K) (a:=b) (xs:=ws) (fun i σ G=>∃ (o5 o6:Option V),σ=[some (.ref a),some (.ref b),some (.int kk),some (.int st),some (.int ((((C6 es es.length).take i).filter fun j=>levB xs kk j&&aliveB bs st j).length:Nat)),o5,o6]/\H=G)
      ⟨none,none,rfl,rfl⟩ (fun i σ G _ ⟨_,_,_,e⟩=>by rw [←e];exact hqb) ?_ ?_
     . rintro i v σ G hv ⟨o5,o6,rfl,rfl⟩
       have hi:i<(C6 es es.length).length:=by rw [←wl];exact (List.getElem?_eq_some_iff.mp hv).1
       obtain⟨j,hj⟩:∃ j,(C6 es es.length)[i]?=some j:=⟨_,List.getElem?_eq_getElem hi⟩
       obtain⟨hjl,_⟩:=i7.mp (List.mem_of_getElem? hj)
       obtain⟨d,hd,rv⟩:=rb.getV hv
       obtain rfl:d=Hv bs j:=by
        rw [show Oz es bs=(C6 es es.length).map (Hv bs) from rfl,List.getElem?_map,hj] at hd
        exact (Option.some.inj hd).symm
       obtain⟨t,rfl,sqt⟩:=Xc rv
       obtain⟨us',v',hus,hat,tv⟩:=LT.get hL (show (0:Int)<=(j:Int) by omega) (show (j:Int)<(xs.length:Int) by omega)
       rw [Int.toNat_natCast] at tv
       have etk:(C6 es es.length).take (i+1)=(C6 es es.length).take i++[j]:=by rw [List.take_succ,hj];rfl
       refine⟨t,_,rfl,sqt,rfl,_,_,rfl,_,_,rfl,rfl,?_⟩
       have yes:levB xs kk j=true->aliveB bs st j=true->((((C6 es es.length).take (i+1)).filter fun j=>levB xs kk j&&aliveB bs st j).length:Int)=((((C6 es es.length).take i).filter fun j=>levB xs kk j&&aliveB bs st j).length:Int)+1:=fun h1 h2=>by
        rw [etk,List.filter_append,List.filter_cons_of_pos (by rw [h1,h2];rfl),List.length_append]
        simp
       have no:¬(levB xs kk j&&aliveB bs st j)=true->(((C6 es es.length).take (i+1)).filter fun j=>levB xs kk j&&aliveB bs st j)=(((C6 es es.length).take i).filter fun j=>levB xs kk j&&aliveB bs st j):=fun h1=>by
        rw [etk,List.filter_append,List.filter_cons_of_neg (p:=fun j=>levB xs kk j&&aliveB bs st j) h1,List.filter_nil,List.append_nil]
       refine⟨_,rfl,_,rfl,a,us',_,_,rfl,rfl,hus,hat,v',nums (xs.getD j []),rfl,.inr tv,_,rfl,rfl,_,rfl,?_⟩
       rw [show (nums (xs.getD j [])).length=(xs.getD j []).length from List.length_map ..]
       by_cases h1:levI (xs.getD j []).length=kk
       rotate_left
       . refine ifN (by simpa using h1) ?_
         refine ifN (by decide) ?_
         have hl1:levB xs kk j=false:=decide_eq_false h1
         rw [←no (by rw [hl1];simp)]
         exact ⟨_,_,rfl,rfl⟩
       have hl1:levB xs kk j=true:=decide_eq_true h1
       refine ifP (by simpa using h1) ?_
       refine⟨_,rfl,_,rfl,_,_,rfl,rfl,_,rfl,?_⟩
       by_cases h2:(j:Int)<st
       rotate_left
       . refine ifN (by simpa using h2) ?_
         refine ifN (by decide) ?_
         have hl2:aliveB bs st j=false:=by unfold aliveB;rw [decide_eq_false h2];rfl
         rw [←no (by rw [hl2];simp)]
         exact ⟨_,_,rfl,rfl⟩
       refine ifP (by simpa using h2) ?_
       refine⟨_,rfl,rfl,_,rfl,?_⟩
       unfold endV
       cases hl:lookI bs (j:Int) with
       | none =>
         have hl2:aliveB bs st j=true:=by unfold aliveB;rw [decide_eq_true h2,hl];rfl
         refine ifP (by simp) ?_
         refine ifP rfl ?_
         refine⟨_,rfl,_,_,rfl,rfl,?_⟩
         exact ⟨_,_,by rw [yes hl1 hl2];rfl,rfl⟩
       | some e =>
         refine ifN (by simp) ?_
         refine⟨_,rfl,_,rfl,_,_,rfl,rfl,_,rfl,?_⟩
         by_cases h3:st<=e
         . have hl2:aliveB bs st j=true:=by unfold aliveB;rw [decide_eq_true h2,hl];exact decide_eq_true h3
           refine ifP (by simpa using h3) ?_
           refine⟨_,rfl,_,_,rfl,rfl,?_⟩
           exact ⟨_,_,by rw [yes hl1 hl2];rfl,rfl⟩
         . have hl2:aliveB bs st j=false:=by unfold aliveB;rw [decide_eq_true h2,hl];exact decide_eq_false h3
           refine ifN (by simpa using h3) ?_
           rw [←no (by rw [hl2];simp)]
           exact ⟨_,_,rfl,rfl⟩
     . rintro σ G ⟨o5,o6,rfl,rfl⟩
       rw [wl,List.take_length]
       exact key _ _ ⟨o5,o6,rfl,rfl⟩
   rintro _ _ ⟨o5,o6,rfl,rfl⟩
   refine⟨Nat.zero_le _,fun l hl=>?_⟩
   have s1:=Same.new (o:=.lst []) hl
   have el:upd H l (.lst []) l=some (.lst []):=Ae
   generalize upd H l (.lst [])=H1 at s1 el ⊢
   refine⟨_,rfl,Bh (by simp),fun t ht=>?_⟩
   have s2:=Same.new (o:=.tup [.ref l,.int (F7 xs es bs kk st:Nat)]) ht
   exact k _ _ (s1.trans s2) ⟨t,_,rfl,.of Ae,⟨_,_,rfl,⟨l,_,rfl,.of (s2 _ _ el),rfl⟩,⟨_,_,rfl,rfl,rfl⟩⟩⟩
abbrev Q3:Stmt:=top 8
theorem Bg5:FnScope ["shape","thing","level"] ["shape","thing"] (Aj Q3):=⟨rfl,rfl,rfl,by decide +kernel,rfl,by decide +kernel,by decide +kernel⟩
theorem Bj7:(["shape","thing","level"]:List Str).Nodup:=by decide +kernel
theorem Bj0 {f:Addr}{fd:FuncData} (F:Fun K "fits" "fits" Q3 f fd) (T:Txt K mg Al Ap Au Aw Af As Ao At A3 Ax Ag Ad Av A2 Ar Aq Ac) (C0:Has P w K mg base "level_of" ["piece"] 1 (Cc K)) (Ic:Has P w K mg base "faces_agree" ["shape","faces"] 1 (F8 K)) (Dv:Has P w K mg base "is_place_of_level" ["shape","thing","level"] 3 (Dh K)):FnOk P w K mg base CX0 4 f fd ["shape","thing"] (Wx K):=by
 refine F.ok Bg5 (fun vs H Q E h=>?_) (fun Bw A outer s H vs Q E hr h=>?_)
 . obtain⟨a,th,e,xs,rfl,hL,hd,k⟩:=h
   rfl
 . obtain⟨a,th,e,xs,rfl,hL,hd,k⟩:=h
   obtain⟨a_FACE_COUNTS,c_FACE_COUNTS,q_FACE_COUNTS⟩:=T.x_FACE_COUNTS
   have hu8:(A.deeper (PyProof.Rows.envOfC "fits" (Aj Q3) s.heap.objs.size f Bw)).units+8<cLine:=by have:=hr.units;omega
   refine⟨_,(Ai (Bu (PW.pt (Aj8 (F2 (Dl (A0 (Hf (K:=K)) (by rfl) T.n_isinstance A4 (Aa (pv 1) (Aa (Jr (v:=.ty "tuple") rfl T.n_tuple Eg rfl) Ah))))) (Zf (A7 (Gx (K:=K) hu8) (A0 (Ay (K:=K)) (by rfl) T.n_len PySem.boot_len (Aa (pv 1) Ah)) (Cr (v:=.ref a_FACE_COUNTS) (by rfl) c_FACE_COUNTS rfl) rfl)))) (Am (Bb Js)) Be)
    (Ai (A5 (i:=2) Bj7 (by rfl) (by first | exact Or.inl rfl | exact Or.inr rfl) (A1 C0 hr (by rfl) (Aa (pv 1) Ah)))
    (Ai (Bu (F2 (Dl (A0 (Vw (K:=K) (by rfl)) (by rfl) T.n_all i8 (Aa (Dj (N':=["face","shape","level"]) (cap:=[none,some 0,some 2]) (by rfl) (by kernel_rfl) (R6 (K:=K) (pv 1)) (fun _ _ _ _=>(Bg (i:=0) Bw3 (by rfl) (by first | exact Or.inl rfl | exact Or.inr rfl))) (fun _ _ _ _=>Fl) (fun _ _ _ _=>(A1 Dv hr (by rfl) (Aa (pv 1) (Aa (pv 0) (Aa (Bf Lb (pv 2) Ak) Ah)))))) Ah)))) (Am (Bb Js)) Be)
    (Am (Bb (Bh7 (B8 Nw (pv 2) Ak (A9 _)) (F3 (A1 Ic hr (by rfl) (Aa (pv 0) (Aa (pv 1) Ah)))))))))),?_⟩
   refine⟨_,rfl,th,"tuple",.one e,rfl,.inr (.inr (.inr (.inl rfl))),hd,_,rfl,?_⟩
   cases e with
   | nul=>exact k H (Same.refl H)
   | d d =>
     have hd:Rep K H th d:=hd
     have k:∀ H',Same H H'->Q (.bl (Fz xs d)) H':=k
     cases d with
     | non=>exact k H (Same.refl H)
     | bl b=>exact k H (Same.refl H)
     | int i=>exact k H (Same.refl H)
     | str z=>exact k H (Same.refl H)
     | lst es=>exact k H (Same.refl H)
     | tup ds =>
       obtain⟨pa,us,rfl,hq,r⟩:=id hd
       have ul:us.length=ds.length:=r.length
       refine ifN (by simp [isT,isE,isD]) ?_
       refine⟨_,rfl,pa,us,rfl,.inr hq,.int (us.length:Int),nums [0,2,3,4],rfl,.inr ⟨_,_,rfl,q_FACE_COUNTS H,Fk.mpr rfl⟩,(by rw [Ka];decide),_,rfl,?_⟩
       rw [ul]
       have cnt:(!(nums [0,2,3,4]).any fun e=>eqD e (.int (ds.length:Int)))=!cntB ds.length:=by
        have:(nums [0,2,3,4]).any (fun e=>eqD e (.int (ds.length:Int)))=cntB ds.length:=by
         simp only [nums,List.map_cons,List.map_nil,List.any_cons,List.any_nil,eqD,cntB]
         rw [Bool.eq_iff_iff]
         simp only [Bool.or_eq_true,beq_iff_eq,Bool.or_false]
         omega
        rw [this]
       by_cases hc:cntB ds.length=true
       rotate_left
       . have hc':cntB ds.length=false:=by simpa using hc
         refine ifP (by rw [if_pos rfl,cnt,hc'];rfl) ?_
         have e2:Fz xs (.tup ds)=false:=by rw [Dq];simp [hc']
         rw [e2] at k
         exact k H (Same.refl H)
       refine ifN (by rw [if_pos rfl,cnt,hc];simp) ?_
       have hn4:ds.length<=4:=(Ad4 hc).1
       refine⟨_,rfl,_,ds,rfl,.inr hd,?_⟩
       refine⟨_,rfl,pa,rfl,⟨_,hq⟩,fun D hD=>?_⟩
       refine Ta (K:=K) (a:=pa) (xs:=us) (fun i ys τ H1=>Same H H1/\H1 D=some (.lst ys)/\ys=((ds.take i).map fun e=>V.bl (B0 xs e (levI ds.length-1)))/\∃ o,τ=[o,some (.ref a),some (.int (levI ds.length))])
        ⟨Same.new hD,Ae,rfl,none,rfl⟩ (fun i ys τ H1 _ ⟨s1,_⟩=>s1.seqT hq) ?_ ?_
       . rintro i x ys τ H1 hx ⟨s1,hD1,hys,o,rfl⟩
         have hi:i<us.length:=(List.getElem?_eq_some_iff.mp hx).1
         obtain⟨e,he,re⟩:=r.getV hx
         refine⟨_,rfl,_,rfl,_,rfl,_,_,rfl,rfl,a,x,e,_,xs,rfl,Rep.same s1 hL,Rep.same s1 re,?_⟩
         refine⟨hD1,Du (by rw [hys,List.length_map,List.length_take];omega),s1.turn hD,Ae,?_,_,rfl⟩
         rw [List.take_succ,he,List.map_append,hys]
         rfl
       . rintro ys τ H1 ⟨s1,hD1,hys,_⟩
         rw [ul,List.take_length] at hys
         have hys2:ys=(ds.map fun e=>B0 xs e (levI ds.length-1)).map V.bl:=by rw [hys,List.map_map];rfl
         rw [hys2] at hD1
         refine⟨D,_,rfl,.of hD1,_,rfl,?_⟩
         have eall:(ds.map fun e=>B0 xs e (levI ds.length-1)).all id=ds.all fun e=>B0 xs e (levI ds.length-1):=by rw [List.all_map];rfl
         by_cases ha:(ds.all fun e=>B0 xs e (levI ds.length-1))=true
         rotate_left
         . have ha':(ds.all fun e=>B0 xs e (levI ds.length-1))=false:=by simpa using ha
           refine ifP (by rw [eall,ha'];rfl) ?_
           have e2:Fz xs (.tup ds)=false:=by rw [Dq];rw [ha',hc];rfl
           rw [e2] at k
           exact k H1 s1
         refine ifN (by rw [eall,ha];simp) ?_
         have e2:Fz xs (.tup ds)=(decide (levI ds.length<2) || Fw xs (ds.map toI)):=by rw [Dq];rw [ha,hc];rfl
         rw [e2] at k
         refine⟨_,rfl,_,_,rfl,rfl,_,rfl,?_⟩
         refine ite2 (fun h1=>?_) (fun h1=>?_)
         . have h2:(decide (levI ds.length<2))=true:=h1
           rw [h2] at k
           exact k H1 s1
         . have h2:(decide (levI ds.length<2))=false:=by simpa using h1
           rw [h2] at k
           have hint:=Yz ha
           have tv:TI K H1 (.ref pa) (ds.map toI):=by
            have:=Rep.same s1 hd
            rw [hint] at this
            exact this
           refine⟨_,rfl,_,rfl,a,_,xs,ds.map toI,rfl,Rep.same s1 hL,tv,by simpa using hn4,?_,k H1 s1⟩
           intro f hf
           rw [List.all_eq_true] at ha
           have hm:L2.D.int f∈ds:=by
            rw [hint]
            exact List.mem_map.mpr ⟨f,hf,rfl⟩
           have:=ha _ hm
           simp only [B0,Bool.and_eq_true,decide_eq_true_eq] at this
           obtain⟨⟨f0,f1⟩,f2⟩:=this
           refine⟨f0,f1,?_⟩
           rw [List.length_map]
           rw [C3,C3] at f2
           have h3:¬levI ds.length<2:=by simpa using h2
           rw [C3] at h3
           omega
abbrev Ck:Stmt:=Ma (top 45) 0
theorem Pi:FnScope ["self","prime"] ["self","prime"] (Aj Ck):=⟨rfl,rfl,rfl,by decide +kernel,rfl,by decide +kernel,by decide +kernel⟩
theorem Pl {f:Addr}{fd:FuncData}{ds0:List Value} (F:FunD K "__init__" "Growth.__init__" Ck f fd ds0) (T:Txt K mg Al Ap Au Aw Af As Ao At A3 Ax Ag Ad Av A2 Ar Aq Ac) (Od:Has P w K mg base "is_prime" ["thing"] 3 (Qg K)):FnOk P w K mg base (CX1 P w) 4 f fd ["self","prime"] (spX_init K Ac Ag):=by
 refine F.okX Pi (fun vs H Q E h=>?_) (fun Bw A outer s H vs Q E hr h=>?_)
 . obtain⟨g,dx,v,e,rfl,hg,hv,kx,k⟩:=h
   rfl
 . obtain⟨g,dx,v,e,rfl,hg,hv,kx,k⟩:=h
   refine⟨_,(Ai (Bu (F2 (Dl (A1 Od hr (by rfl) (Aa (pv 1) Ah)))) (Am (P4 Mt (by rfl) (by rfl) T.m_NoPrime T.e_NoPrime (Aa Vr Ah))) Be)
    (Ai (R5 (K:=K) (pv 0) (pv 1))
    (Ai (R5 (K:=K) (pv 0) (Cl Ah))
    (Ai (R5 (K:=K) (pv 0) (Cl Ah))
    (Ai (R5 (K:=K) (pv 0) (Cl Ah))
    (Am (R5 (K:=K) (pv 0) P5))))))),?_⟩
   refine⟨_,rfl,v,e,rfl,hv,fun b H0 s0 hb=>⟨_,rfl,?_⟩⟩
   by_cases hP:O9 e
   rotate_left
   . have hb':¬b=true:=fun z=>hP (hb.mp z)
     refine ifP (by simpa using hb') ?_
     exact ⟨Bh (by simp),kx hP H0 s0⟩
   rw [hb.mpr hP]
   obtain⟨p,rfl,hP,h98⟩:=hP
   cases (show v=.int p from hv)
   have k:=k p rfl hP h98
   refine ifN (by decide) ?_
   refine⟨_,rfl,_,rfl,g,Ac,dx,[],rfl,s0 _ _ hg,T.cl_Growth,T.na_Growth_prime,by decide,?_⟩
   have sx0:SameX g H (upd H0 g (.ins Ac dx (putF "prime" (.int p) []))):=SameX.upd (SameX.of s0)
   have eg0:upd H0 g (.ins Ac dx (putF "prime" (.int p) [])) g=some (.ins Ac dx (putF "prime" (.int p) [])):=Ae
   generalize upd H0 g (.ins Ac dx (putF "prime" (.int p) []))=H1 at sx0 eg0
   refine⟨Bh (by simp),fun pc hpc=>?_⟩
   have npc:pc≠g:=fun z=>by rw [z,eg0] at hpc;cases hpc
   obtain⟨sx1,eg1,epc,pe0,fpc,_⟩:=init_step (o:=.lst []) (putF "pieces" (.ref pc) (putF "prime" (.int p) [])) sx0 eg0 hpc
   refine⟨_,rfl,g,Ac,dx,_,rfl,(by rw [An npc.symm];exact eg0),T.cl_Growth,T.na_Growth_pieces,Nat.lt_of_le_of_lt (lenF (Nat.le_refl 0)) (by decide),?_⟩
   generalize upd (upd H1 pc (.lst [])) g (.ins Ac dx (putF "pieces" (.ref pc) (putF "prime" (.int p) [])))=H2 at sx1 eg1 epc
   refine⟨Bh (by simp),fun sh hsh=>?_⟩
   have nsh:sh≠g:=fun z=>by rw [z,eg1] at hsh;cases hsh
   obtain⟨sx2,eg2,esh,pe1,fsh,_⟩:=init_step (o:=.lst []) (putF "sheets" (.ref sh) (putF "pieces" (.ref pc) (putF "prime" (.int p) []))) sx1 eg1 hsh
   refine⟨_,rfl,g,Ac,dx,_,rfl,(by rw [An nsh.symm];exact eg1),T.cl_Growth,T.na_Growth_sheets,Nat.lt_of_le_of_lt (lenF (lenF (Nat.le_refl 0))) (by decide),?_⟩
   have dpcsh:pc≠sh:=fun z=>by rw [←z,epc] at hsh;cases hsh
   replace epc:=pe1 _ _ npc epc
   generalize upd (upd H2 sh (.lst [])) g (.ins Ac dx (putF "sheets" (.ref sh) (putF "pieces" (.ref pc) (putF "prime" (.int p) []))))=H3 at sx2 eg2 esh epc
   refine⟨Bh (by simp),fun ed hed=>?_⟩
   have ned:ed≠g:=fun z=>by rw [z,eg2] at hed;cases hed
   obtain⟨sx3,eg3,eed,pe2,fed,_⟩:=init_step (o:=.lst []) (putF "edges" (.ref ed) (putF "sheets" (.ref sh) (putF "pieces" (.ref pc) (putF "prime" (.int p) [])))) sx2 eg2 hed
   refine⟨_,rfl,g,Ac,dx,_,rfl,(by rw [An ned.symm];exact eg2),T.cl_Growth,T.na_Growth_edges,Nat.lt_of_le_of_lt (lenF (lenF (lenF (Nat.le_refl 0)))) (by decide),?_⟩
   have dpced:pc≠ed:=fun z=>by rw [←z,epc] at hed;cases hed
   have dshed:sh≠ed:=fun z=>by rw [←z,esh] at hed;cases hed
   replace epc:=pe2 _ _ npc epc
   replace esh:=pe2 _ _ nsh esh
   generalize upd (upd H3 ed (.lst [])) g (.ins Ac dx (putF "edges" (.ref ed) (putF "sheets" (.ref sh) (putF "pieces" (.ref pc) (putF "prime" (.int p) [])))))=H4 at sx3 eg3 eed epc esh
   refine fun en hen=>?_
   have nen:en≠g:=fun z=>by rw [z,eg3] at hen;cases hen
   obtain⟨sx4,eg4,een,pe3,fen,_⟩:=init_step (o:=.dK []) (putF "enders" (.ref en) (putF "edges" (.ref ed) (putF "sheets" (.ref sh) (putF "pieces" (.ref pc) (putF "prime" (.int p) []))))) sx3 eg3 hen
   refine⟨_,rfl,g,Ac,dx,_,rfl,(by rw [An nen.symm];exact eg3),T.cl_Growth,T.na_Growth_enders,Nat.lt_of_le_of_lt (lenF (lenF (lenF (lenF (Nat.le_refl 0))))) (by decide),?_⟩
   have dpcen:pc≠en:=fun z=>by rw [←z,epc] at hen;cases hen
   have dshen:sh≠en:=fun z=>by rw [←z,esh] at hen;cases hen
   have deden:ed≠en:=fun z=>by rw [←z,eed] at hen;cases hen
   replace epc:=pe3 _ _ npc epc
   replace esh:=pe3 _ _ nsh esh
   replace eed:=pe3 _ _ ned eed
   generalize upd (upd H4 en (.dK [])) g (.ins Ac dx (putF "enders" (.ref en) (putF "edges" (.ref ed) (putF "sheets" (.ref sh) (putF "pieces" (.ref pc) (putF "prime" (.int p) []))))))=H5 at sx4 eg4 een epc esh eed
   refine k pc sh ed en H5 fpc fsh fed fen sx4 ⟨⟨dx,_,eg4,by refine⟨?_,?_,?_,?_,?_,?_,?_,?_,?_,?_,?_,?_⟩<;>((repeat (first | rw [Hy,if_pos rfl] | rw [Hy,if_neg (by decide +kernel)]))<;>first | rfl | assumption)⟩,⟨[],epc,rfl⟩,⟨[],eed,rfl,fun i d m e=>by simp at e⟩,⟨[],esh,rfl,fun i d m e=>by simp at e⟩,een,⟨dpcsh,dpced,dshed⟩,Ox.nil p,hP,h98⟩
abbrev Cz:Stmt:=Ma (top 45) 7
theorem Q2:FnScope ["self","k","stage","many","now","holes"] ["self","k","stage"] (Aj Cz):=⟨rfl,rfl,rfl,by decide +kernel,rfl,by decide +kernel,by decide +kernel⟩
theorem Fo:(["self","k","stage","many","now","holes"]:List Str).Nodup:=by decide +kernel
theorem Jt {f:Addr}{fd:FuncData}{ds0:List Value} (F:FunD K "alive" "Growth.alive" Cz f fd ds0) (T:Txt K mg Al Ap Au Aw Af As Ao At A3 Ax Ag Ad Av A2 Ar Aq Ac) (El:HasX P w K mg base "check_level" ["k","bound"] 3 (Qh K Af)) (Bc:Has P w K mg base "is_whole_below" ["thing","bound"] 2 (Fi K)) (Bz:HasM P w K mg base Ac "pairs" ["self"] 1 (Mp K Ac)) (C0:Has P w K mg base "level_of" ["piece"] 1 (Cc K)) (Kx:Has P w K mg base "is_alive" ["pair","stage"] 1 (Qi K)):FnOk P w K mg base (CX1 P w) 4 f fd ["self","k","stage"] (Jn K Ac Af Ad):=by
 refine F.okX Q2 (fun vs H Q E h=>?_) (fun Bw A outer s H vs Q E hr h=>?_)
 . obtain⟨g,pc,sh,ed,en,vk,vst,ek,est,p,xs,es,ss,bs,rfl,x,hk,hst,kl,ks,k⟩:=h
   rfl
 . obtain⟨g,pc,sh,ed,en,vk,vst,ek,est,p,xs,es,ss,bs,rfl,x,hk,hst,kl,ks,k⟩:=h
   obtain⟨t_LEVELS,c_LEVELS⟩:=T.x_LEVELS
   refine⟨_,(Ai (Di (A94 A18 El hr (by rfl) (Aa (pv 1) (Aa (Cr (v:=.int 4) (by rfl) c_LEVELS ⟨_,rfl⟩) Ah))))
    (Ai (A5 (i:=3) Fo (by rfl) (by first | exact Or.inl rfl | exact Or.inr rfl) (A0 (Ay (K:=K)) (by rfl) T.n_len PySem.boot_len (Aa (B6 (K:=K) (pv 0)) Ah)))
    (Ai (Bu (PW.pt (Oy (A7 Bi5 (pv 2) Ev (A9 _)) (Ly (F2 (Dl (A1 Bc hr (by rfl) (Aa (pv 2) (Aa (Bf Ew (pv 3) Ak) Ah)))))))) (Am (P4 Mt (by rfl) (by rfl) T.m_NoStage T.e_NoStage (Aa (Av8 (Xi Vr (Xi (Bd5 (pv 3)) Bd2))) Ah))) Be)
    (Ai (A5 (i:=4) Fo (by rfl) (by first | exact Or.inl rfl | exact Or.inr rfl) (Af2 (A7 Rc (pv 2) Ev (A9 _)) (pv 3) (pv 2)))
    (Ai (Xd (N':=["pair","self","k"]) (cap:=[none,some 0,some 1]) (i:=5) Fo (by rfl) (by first | exact Or.inl rfl | exact Or.inr rfl) (by rfl) (by kernel_rfl) (C5 (K:=K) (Mr (pv 0) T.cl_Growth Bz hr)) (fun _ _ _ _=>(Bg (i:=0) Bw0 (by rfl) (by first | exact Or.inl rfl | exact Or.inr rfl))) (fun _ _ _ _=>(F9 (A7 Dk (A1 C0 hr (by rfl) (Aa (Bx (Bt (K:=K)) (B6 (K:=K) (pv 1)) (Bx (Bm (K:=K)) (pv 0) Ak (fun _ _=>rfl)) (fun _ _=>rfl)) Ah)) (pv 2) (A9 _)))) (fun _ _ _ _=>(pv 0)))
    (Am (Bb (A0 (Ay (K:=K)) (by rfl) T.n_len PySem.boot_len (Aa (Dj (N':=["pair","now"]) (cap:=[none,some 4]) (by rfl) (by kernel_rfl) (C5 (K:=K) (pv 5)) (fun _ _ _ _=>(Bg (i:=0) Bw1 (by rfl) (by first | exact Or.inl rfl | exact Or.inr rfl))) (fun _ _ _ _=>(F9 (Dl (A1 Kx hr (by rfl) (Aa (pv 0) (Aa (pv 1) Ah)))))) (fun _ _ _ _=>(pv 0))) Ah))))))))),?_⟩
   obtain⟨dx,fs,hg,l1,l2,l3,l4,l5,lm⟩:=x.ob
   obtain⟨us,hpc,r⟩:=x.pcs
   have hul:us.length=xs.length:=by have:=r.length;simpa using this
   have n40:=x.gw.n40
   have hel:=x.gw.le
   refine⟨_,rfl,vk,ek,4,rfl,hk,by decide,by decide,fun hb=>?_,fun hb H' s'=>kl hb H' s'⟩
   obtain⟨kk,rfl,k0,k4⟩:=D4 hb
   cases (show vk=.int kk from hk)
   refine⟨_,rfl,g,Ac,dx,fs,_,rfl,hg,T.cl_Growth,T.na_Growth_pieces,l2,pc,us,rfl,.inl (.of hpc),?_⟩
   rw [hul]
   refine A6 (fun σ' H'=>σ'=[some (.ref g),some (.int kk),some vst,some (.int (xs.length:Int)),none,none]/\H=H') ?_ fun key0=>key0 _ _ ⟨rfl,rfl⟩
   rintro _ _ ⟨rfl,rfl⟩
   refine A6 (t:=tIfS _ _ _) (fun σ' H'=>σ'=[some (.ref g),some (.int kk),some vst,some (.int (xs.length:Int)),none,none]/\H=H'/\(est=.d .non\/(¬vst=.non/\B7 est ((xs.length:Int)+1)=true))) ?_ fun key=>?_
   rotate_left
   . refine⟨_,rfl,rfl,_,rfl,?_⟩
     by_cases hn:vst=.non
     . refine ifN (by simp [hn]) ?_
       refine ifN (by decide) ?_
       subst hn
       exact key _ _ ⟨rfl,rfl,.inl (Au2 hst)⟩
     refine ifP (by simpa using hn) ?_
     refine⟨_,rfl,_,rfl,_,_,rfl,rfl,vst,est,_,rfl,hst,_,rfl,?_⟩
     by_cases hb2:B7 est ((xs.length:Int)+1)=true
     . refine ifN (by rw [hb2];decide) ?_
       exact key _ _ ⟨rfl,rfl,.inr ⟨hn,hb2⟩⟩
     . refine ifP (by simpa using hb2) ?_
       refine⟨_,rfl,by decide +kernel,_,rfl,.inl ⟨(xs.length:Int),rfl,Zw (by omega),fun x2 hx2=>⟨_,rfl,hx2,fun x3 hx3=>?_⟩⟩⟩
       refine⟨Bh (by simp),ks hb (fun z=>hn ?_) hb2 H (Same.refl H)⟩
       rw [z] at hst
       exact hst
   rintro _ _ ⟨rfl,rfl,hcase⟩
   refine A6 (fun σ' H'=>∃ st:Int,σ'=[some (.ref g),some (.int kk),some vst,some (.int (xs.length:Int)),some (.int st),none]/\H=H'/\((est=.d .non/\st=(xs.length:Int))\/(est=.d (.int st)/\0<=st/\st<=(xs.length:Int)))) ?_ fun key=>?_
   rotate_left
   . refine⟨_,rfl,rfl,_,rfl,?_⟩
     rcases hcase with he|⟨hn,hb2⟩
     . have hv:vst=.non:=by rw [he] at hst;exact hst
       refine ifP (by simp [hv]) ?_
       exact ⟨_,rfl,key _ _ ⟨_,rfl,rfl,.inl ⟨he,rfl⟩⟩⟩
     . refine ifN (by simpa using hn) ?_
       obtain⟨st,rfl,t0,t1⟩:=D4 hb2
       cases (show vst=.int st from hst)
       exact ⟨_,rfl,key _ _ ⟨st,rfl,rfl,.inr ⟨rfl,t0,by omega⟩⟩⟩
   rintro _ _ ⟨st,rfl,rfl,hst2⟩
   have fin:=k kk st rfl k0 k4 hst2
   refine A6 (fun σ' H'=>∃ (D:Addr) (ys:List V),σ'=[some (.ref g),some (.int kk),some vst,some (.int (xs.length:Int)),some (.int st),some (.ref D)]/\Same H H'/\H' D=some (.lst ys)/\Reps K H' ys (((C6 es es.length).filter (levB xs kk)).map (Hv bs))) ?_ fun key=>?_
   rotate_left
   . refine⟨_,rfl,g,dx,fs,rfl,hg,lm.2.2.2.2.2.1,g,pc,sh,ed,en,p,xs,es,ss,bs,rfl,x,fun l ws H1 nl s1 el rl=>⟨l,rfl,⟨_,.of el⟩,fun D hD=>?_⟩⟩
     have x1:=x.same s1
     have wl:ws.length=(C6 es es.length).length:=by have:=rl.length;rw [this];exact List.length_map ..
     have bl:=Tj es es.length
     refine Mz (K:=K) (a:=l) (xs:=ws) (fun i ys τ G=>Same H1 G/\G D=some (.lst ys)/\Reps K G ys ((((C6 es es.length).take i).filter (levB xs kk)).map (Hv bs))/\∃ o,τ=[o,some (.ref g),some (.int kk)])
      ⟨Same.new hD,Ae,rfl,none,rfl⟩ (fun i ys τ G _ ⟨h1,_⟩=>.of (h1 _ _ el)) ?_ ?_
     . rintro i v ys τ G hv ⟨h1,hDG,ry,o,rfl⟩
       have hi:i<(C6 es es.length).length:=by rw [←wl];exact (List.getElem?_eq_some_iff.mp hv).1
       obtain⟨j,hj⟩:∃ j,(C6 es es.length)[i]?=some j:=⟨_,List.getElem?_eq_getElem hi⟩
       obtain⟨hjl,_⟩:=i7.mp (List.mem_of_getElem? hj)
       obtain⟨d,hd,rv⟩:=rl.getV hv
       obtain rfl:d=Hv bs j:=by
        rw [show Oz es bs=(C6 es es.length).map (Hv bs) from rfl,List.getElem?_map,hj] at hd
        exact (Option.some.inj hd).symm
       have rv1:=Rep.same h1 rv
       obtain⟨t,rfl,sqt⟩:=Xc rv1
       have hLG:LT K G (.ref pc) xs:=⟨pc,us,rfl,.of (h1 _ _ (s1 _ _ hpc)),Reps.same (s1.trans h1) r⟩
       obtain⟨us',v',hus,hat,tv⟩:=LT.get hLG (show (0:Int)<=(j:Int) by omega) (show (j:Int)<(xs.length:Int) by omega)
       rw [Int.toNat_natCast] at tv
       have yl:ys.length<=40:=by
        have h2:=ry.length
        rw [List.length_map] at h2
        have h3:=List.length_filter_le (levB xs kk) ((C6 es es.length).take i)
        rw [List.length_take] at h3
        omega
       refine⟨_,rfl,g,Ac,dx,fs,_,rfl,h1 _ _ (s1 _ _ hg),T.cl_Growth,T.na_Growth_pieces,l2,_,rfl,t,_,_,_,rfl,rfl,sqt,at0 _ _,pc,us',_,_,rfl,rfl,hus,hat,v',nums (xs.getD j []),rfl,.inr tv,_,rfl,rfl,_,rfl,?_⟩
       rw [show (nums (xs.getD j [])).length=(xs.getD j []).length from List.length_map ..]
       have etk:(C6 es es.length).take (i+1)=(C6 es es.length).take i++[j]:=by rw [List.take_succ,hj];rfl
       refine ite2 (fun h2=>?_) (fun h2=>?_)
       . have hb3:levB xs kk j=true:=by
          unfold levB
          have:levI (xs.getD j []).length=kk:=by simpa using h2
          exact decide_eq_true this
         refine⟨_,rfl,hDG,Du (by omega),h1.turn hD,Ae,?_,_,rfl⟩
         rw [etk,List.filter_append,List.filter_cons_of_pos hb3,List.map_append]
         refine Reps.t (Ow.lst hDG) ?_ (Reps.append ry ⟨_,_,rfl,rv1,rfl⟩)
         have:=Nv bs (((C6 es es.length).take i).filter (levB xs kk)++[j])
         rw [List.map_append] at this
         exact this
       . have hb3:¬levB xs kk j=true:=by
          unfold levB
          intro z
          apply h2
          have:levI (xs.getD j []).length=kk:=by simpa using z
          rw [this]
          simp
         refine⟨h1,hDG,?_,_,rfl⟩
         rw [etk,List.filter_append,List.filter_cons_of_neg hb3,List.filter_nil,List.append_nil]
         exact ry
     . rintro ys τ G ⟨h1,hDG,ry,_⟩
       rw [wl,List.take_length] at ry
       exact key _ _ ⟨D,ys,rfl,s1.trans h1,hDG,ry⟩
   rintro _ H1 ⟨D,ys,rfl,s1,hD1,ry⟩
   obtain⟨L,hL⟩:∃ L,L=(C6 es es.length).filter (levB xs kk):=⟨_,rfl⟩
   rw [←hL] at ry
   have yl:ys.length=L.length:=by have:=ry.length;rw [List.length_map] at this;exact this
   have Ll:L.length<=40:=by
    have h3:=List.length_filter_le (levB xs kk) (C6 es es.length)
    have:=Tj es es.length
    rw [hL]
    omega
   refine⟨_,rfl,D,rfl,⟨_,.of hD1⟩,fun D2 hD2=>?_⟩
   refine Mz (K:=K) (a:=D) (xs:=ys) (fun i zs τ G=>Same H1 G/\G D2=some (.lst zs)/\zs.length=((L.take i).filter (aliveB bs st)).length/\∃ o,τ=[o,some (.int st)])
    ⟨Same.new hD2,Ae,rfl,none,rfl⟩ (fun i zs τ G _ ⟨h1,_⟩=>.of (h1 _ _ hD1)) ?_ ?_
   . rintro i v zs τ G hv ⟨h1,hDG,hzl,o,rfl⟩
     have hi:i<L.length:=by rw [←yl];exact (List.getElem?_eq_some_iff.mp hv).1
     have hj:L[i]?=some L[i]:=List.getElem?_eq_getElem hi
     obtain⟨d,hd,rv⟩:=ry.getV hv
     obtain rfl:d=Hv bs L[i]:=by
      rw [List.getElem?_map,hj] at hd
      exact (Option.some.inj hd).symm
     obtain⟨t,rfl,sqt⟩:=Xc (Rep.same h1 rv)
     have etk:L.take (i+1)=L.take i++[L[i]]:=by rw [List.take_succ,hj];rfl
     have zl:zs.length<=40:=by
      have h3:=List.length_filter_le (aliveB bs st) (L.take i)
      rw [List.length_take] at h3
      omega
     refine⟨_,rfl,_,rfl,t,bs,L[i],st,rfl,sqt,_,rfl,?_⟩
     refine ite2 (fun h2=>?_) (fun h2=>?_)
     . refine⟨_,rfl,hDG,Du (by omega),h1.turn hD2,Ae,?_,_,rfl⟩
       rw [etk,List.filter_append,List.filter_cons_of_pos h2,List.length_append,List.length_append,hzl]
       rfl
     . refine⟨h1,hDG,?_,_,rfl⟩
       rw [etk,List.filter_append,List.filter_cons_of_neg h2,List.filter_nil,List.append_nil]
       exact hzl
   . rintro zs τ G ⟨h1,hDG,hzl,_⟩
     rw [yl,List.take_length] at hzl
     refine⟨D2,zs,rfl,.inl (.of hDG),?_⟩
     have e:zs.length=F7 xs es bs kk st:=by
      unfold F7
      rw [hzl,hL,List.filter_filter]
      congr 1
      exact List.filter_congr fun j _=>Bool.and_comm ..
     rw [e]
     exact fin G (s1.trans h1)
abbrev Gu:Stmt:=top 60
theorem Aj7:FnScope ["_law_kind","_law_cells","_law_most","_law_pieces","_law_cell","_law_piece"] ["_law_kind","_law_cells","_law_most"] (Aj Gu):=⟨rfl,rfl,rfl,by decide +kernel,rfl,by decide +kernel,by decide +kernel⟩
theorem Kv:(["_law_kind","_law_cells","_law_most","_law_pieces","_law_cell","_law_piece"]:List Str).Nodup:=by decide +kernel
theorem Al4 {f:Addr}{fd:FuncData} (F:Fun K "_law_built" "_law_built" Gu f fd) (T:Txt K mg Al Ap Au Aw Af As Ao At A3 Ax Ag Ad Av A2 Ar Aq Ac) (J3:Has P w K mg base "_law_shape_by" ["_law_kind","_law_cells","_law_most"] 3 (Lv K)) (P8:Has P w K mg base "_law_fits" ["_law_pieces","_law_thing"] 2 (Qe K)) (Ya:Has P w K mg base "_law_next" ["_law_pieces","_law_cell"] 3 (Qk K)):FnOk P w K mg base CX0 4 f fd ["_law_kind","_law_cells","_law_most"] (Qf K):=by
 refine F.ok Aj7 (fun vs H Q E h=>?_) (fun Bw A outer s H vs Q E hr h=>?_)
 . obtain⟨cl,ns,kind,most,rfl,hS,hl,hm0,hm1,k⟩:=h
   rfl
 . obtain⟨cl,ns,kind,most,rfl,hS,hl,hm0,hm1,k⟩:=h
   refine⟨_,(Ai (A5 (i:=3) Kv (by rfl) (by first | exact Or.inl rfl | exact Or.inr rfl) (Cl Ah))
    (Ai (Bu (A7 Dk (Bf Br (pv 0) Ak) Ak (A9 _)) (Ai (D1 PassesOwn.never rfl (C5 (K:=K) (pv 1)) (Bg (i:=4) Kv (by rfl) (by first | exact Or.inl rfl | exact Or.inr rfl)) (Am (Bu (A7 Nw (A0 (Ay (K:=K)) (by rfl) T.n_len PySem.boot_len (Aa (pv 3) Ah)) (pv 2) (A9 _)) (Ai (A5 (i:=5) Kv (by rfl) (by first | exact Or.inl rfl | exact Or.inr rfl) (A1 Ya hr (by rfl) (Aa (pv 3) (Aa (Bf Ew (Bf Br (pv 4) Ak) (Bf op_mulX Ak (A0 (Ay (K:=K)) (by rfl) T.n_len PySem.boot_len (Aa (pv 3) Ah)))) Ah))))
    (Am (Bu (Dl (A1 P8 hr (by rfl) (Aa (pv 3) (Aa (pv 5) Ah)))) (Am (Di (Le (K:=K) PySem.F.plainAttrs_list PySem.F.slot_list_append PySem.F.type_list_append Do (pv 3) (Aa (pv 5) Ah)))) Be))) Be)))
    (Am (Bb (pv 3)))) Be)
    (Ai (D1 PassesOwn.never rfl (C5 (K:=K) (A1 J3 hr (by rfl) (Aa (Bf C8 (pv 0) Ak) (Aa (pv 1) (Aa (pv 2) Ah))))) (Bg (i:=5) Kv (by rfl) (by first | exact Or.inl rfl | exact Or.inr rfl)) (Am (Bu (PW.pt (Oy (A7 Nw (A0 (Ay (K:=K)) (by rfl) T.n_len PySem.boot_len (Aa (pv 3) Ah)) (pv 2) (A9 _)) (Ly (Dl (A1 P8 hr (by rfl) (Aa (pv 3) (Aa (pv 5) Ah))))))) (Am (Di (Le (K:=K) PySem.F.plainAttrs_list PySem.F.slot_list_append PySem.F.type_list_append Do (pv 3) (Aa (pv 5) Ah)))) Be)))
    (Am (Bb (pv 3)))))),?_⟩
   refine⟨Nat.zero_le _,fun D hD=>?_⟩
   have s0:Same H (upd H D (.lst [])):=Same.new hD
   have hD0:(upd H D (.lst [])) D=some (.lst []):=Ae
   generalize upd H D (.lst [])=H0 at s0 hD0
   refine A6 (fun σ' H'=>σ'=[some (.int kind),some (.ref cl),some (.int most),some (.ref D),none,none]/\H0=H') ?_ fun key0=>key0 _ _ ⟨rfl,rfl⟩
   rintro _ _ ⟨rfl,rfl⟩
   refine A6 (fun σ' H'=>σ'=[some (.int kind),some (.ref cl),some (.int most),some (.ref D),none,none]/\H0=H') ?_ fun key=>?_
   rotate_left
   . refine⟨_,rfl,_,_,rfl,rfl,(by show (0:Int)<2;decide),rfl,_,rfl,?_⟩
     refine ite2 (fun _=>?_) (fun _=>key _ _ ⟨rfl,rfl⟩)
     refine⟨_,rfl,cl,rfl,⟨_,s0.seq hS⟩,for_list (K:=K) (a:=cl) (xs:=ns.map V.int) (fun j σ G=>∃ (du:List V) (xs:List (List Int)) (o4 o5:Option V),σ=[some (.int kind),some (.ref cl),some (.int most),some (.ref D),o4,o5]/\Same H G/\G D=some (.lst du)/\Reps K G du (xs.map tI)/\Fx xs/\(xs.length:Int)<=most)
      ⟨[],[],none,none,rfl,s0,hD0,rfl,Za,by simpa using hm0⟩ (fun j σ G _ ⟨_,_,_,_,_,g,_⟩=>g.seq hS) ?_ ?_⟩
     . rintro j x σ G hx ⟨du,xs,o4,o5,rfl,g,hDG,rD,hC,hxl⟩
       have hjn:j<ns.length:=by have:=(List.getElem?_eq_some_iff.mp hx).1;simpa using this
       have hxv:x=.int ns[j]:=by
        rw [List.getElem?_map,List.getElem?_eq_getElem hjn] at hx
        simpa using hx.symm
       subst hxv
       have dul:du.length=xs.length:=by have:=rD.length;simpa using this
       refine⟨_,rfl,D,_,rfl,.inl (.of hDG),_,rfl,_,_,rfl,rfl,_,rfl,?_⟩
       refine ite2 (fun h1=>?_) (fun h1=>⟨du,xs,_,_,rfl,g,hDG,rD,hC,by omega⟩)
       have h1:(xs.length:Int)<most:=by rw [dul] at h1;simpa using h1
       refine⟨_,rfl,_,rfl,_,_,rfl,rfl,(by show (0:Int)<1000003;decide),_,rfl,D,_,rfl,.inl (.of hDG),_,_,rfl,rfl,O1 (by decide) (by decide),_,_,rfl,rfl,D,xs,_,rfl,⟨D,du,rfl,.of hDG,rD⟩,Gm hC,by omega,fun w p G1 g1 tw=>?_⟩
       have hDG1:=g1 _ _ hDG
       have rD1:=Reps.same g1 rD
       refine⟨_,rfl,_,rfl,D,w,.d (tI p),xs,rfl,⟨D,du,rfl,.of hDG1,rD1⟩,Gm hC,by omega,tw,fun G2 g2=>?_⟩
       have gg:=g.trans (g1.trans g2)
       have hDG2:=g2 _ _ hDG1
       have rD2:=Reps.same g2 rD1
       refine⟨_,rfl,?_⟩
       refine ite2 (fun h2=>?_) (fun h2=>⟨du,xs,_,_,rfl,gg,hDG2,rD2,hC,by omega⟩)
       refine⟨_,rfl,.inl ⟨rfl,_,.of hDG2⟩,_,rfl,D,_,_,rfl,rfl,hDG2,Du (by omega),?_⟩
       exact ⟨_,xs++[p],_,_,rfl,gg.turn hD,Ae,Ht hDG2 rD2 (TI.same g2 tw),Nl hC (Ab9 (Gm hC) h2),by rw [List.length_append];simp;omega⟩
     . rintro σ G ⟨du,xs,o4,o5,rfl,g,hDG,rD,hC,hxl⟩
       exact ⟨_,rfl,k D du xs G hD g hDG rD hC (by omega)⟩
   rintro _ _ ⟨rfl,rfl⟩
   refine⟨_,rfl,_,_,rfl,rfl,⟨by decide,by decide⟩,_,rfl,_,rfl,cl,ns,_,most,rfl,s0.seq hS,hl,hm0,by omega,fun W wu G0 zs hW g0 hW0 rW hsh hzl=>?_⟩
   have g00:=s0.trans g0
   have wul:wu.length=zs.length:=by have:=rW.length;simpa using this
   refine⟨W,rfl,⟨_,.of hW0⟩,for_list (K:=K) (a:=W) (xs:=wu) (fun j σ G=>∃ (du:List V) (xs:List (List Int)) (o5:Option V),σ=[some (.int kind),some (.ref cl),some (.int most),some (.ref D),none,o5]/\SameX D G0 G/\G D=some (.lst du)/\Reps K G du (xs.map tI)/\Fx xs/\(xs.length:Int)<=most)
    ⟨[],[],none,rfl,SameX.refl _ _,g0 _ _ hD0,rfl,Za,by simpa using hm0⟩ (fun j σ G _ ⟨_,_,_,_,g,_⟩=>.of (g _ _ (A8 hD0 hW).symm hW0)) ?_ ?_⟩
   . rintro j x σ G hx ⟨du,xs,o5,rfl,g,hDG,rD,hC,hxl⟩
     have hj:j<wu.length:=(List.getElem?_eq_some_iff.mp hx).1
     have hjz:j<zs.length:=by omega
     have hjx:(zs.map tI)[j]?=some (tI zs[j]):=by rw [List.getElem?_map,List.getElem?_eq_getElem hjz];rfl
     obtain⟨x',hx',tx⟩:=rW.get hjx
     rw [hx] at hx'
     cases hx'
     have txG:TI K G x zs[j]:=TI.t (g.t (g0 _ _ hD0)) tx
     generalize zs[j]=p at txG
     have dul:du.length=xs.length:=by have:=rD.length;simpa using this
     refine⟨_,rfl,D,_,rfl,.inl (.of hDG),_,rfl,_,_,rfl,rfl,_,rfl,?_⟩
     refine ite2 (fun h1=>?_) (fun h1=>?_)
     rotate_left
     . refine ifN (by simp) ?_
       exact ⟨du,xs,_,rfl,g,hDG,rD,hC,by omega⟩
     have h1:(xs.length:Int)<most:=by rw [dul] at h1;simpa using h1
     refine⟨_,rfl,_,rfl,D,x,.d (tI p),xs,rfl,⟨D,du,rfl,.of hDG,rD⟩,Gm hC,by omega,txG,fun G2 g2=>?_⟩
     have hDG2:=g2 _ _ hDG
     have rD2:=Reps.same g2 rD
     have gx:=g.trans (SameX.of g2)
     refine⟨_,rfl,?_⟩
     refine ite2 (fun h2=>?_) (fun h2=>⟨du,xs,_,rfl,gx,hDG2,rD2,hC,by omega⟩)
     refine⟨_,rfl,.inl ⟨rfl,_,.of hDG2⟩,_,rfl,D,_,_,rfl,rfl,hDG2,Du (by omega),?_⟩
     exact ⟨_,xs++[p],_,rfl,gx.upd,Ae,Ht hDG2 rD2 (TI.same g2 txG),Nl hC (Ab9 (Gm hC) h2),by rw [List.length_append];simp;omega⟩
   . rintro σ G ⟨du,xs,o5,rfl,g,hDG,rD,hC,hxl⟩
     exact ⟨_,rfl,k D du xs G hD (g.same g00 hD) hDG rD hC (by omega)⟩
abbrev Ce:Stmt:=top 68
theorem Qw:FnScope ["_law_growth","_law_pieces","_law_cell","_law_thing","_law_found","_law_marks_here","_law_e"] ["_law_growth","_law_pieces","_law_cell"] (Aj Ce):=⟨rfl,rfl,rfl,by decide +kernel,rfl,by decide +kernel,by decide +kernel⟩
theorem Cm:(["_law_growth","_law_pieces","_law_cell","_law_thing","_law_found","_law_marks_here","_law_e"]:List Str).Nodup:=by decide +kernel
theorem Rg {f:Addr}{fd:FuncData} (F:Fun K "_law_paper_told" "_law_paper_told" Ce f fd) (T:Txt K mg Al Ap Au Aw Af As Ao At A3 Ax Ag Ad Av A2 Ar Aq Ac) (B2:Has P w K mg base "_law_thing_by" ["_law_cell","_law_many"] 1 (Jh K)) (Bo:Has P w K mg base "_law_is_from_to" ["_law_thing","_law_low","_law_high"] 2 (Mn K)) (Ey:A66 P w K mg base Ac "paper" ["self","place"] 3 (Ql K Ac Ad)) (hn_L_marks:HasN P w K mg base "_law_marks" ["_law_e"] 1 (Ji K Ap Au Aw Af As Ao At A3 Ax Ag Ad Av A2 Ar Aq)) (Em:Has P w K mg base "_law_only" ["_law_at"] 1 (Mm K)):FnOk P w K mg base CX0 4 f fd ["_law_growth","_law_pieces","_law_cell"] (Hm K Ac):=by
 refine F.ok Qw (fun vs H Q E h=>?_) (fun Bw A outer s H vs Q E hr h=>?_)
 . obtain⟨g,pc,sh,ed,en,a,c,p,xs,es,ss,bs,rfl,x,shx,hL,k⟩:=h
   rfl
 . obtain⟨g,pc,sh,ed,en,a,c,p,xs,es,ss,bs,rfl,x,shx,hL,k⟩:=h
   have hu8:(A.deeper (PyProof.Rows.envOfC "_law_paper_told" (Aj Ce) s.heap.objs.size f Bw)).units+8<cLine:=by have:=hr.units;omega
   refine⟨_,(Ai (A5 (i:=3) Cm (by rfl) (by first | exact Or.inl rfl | exact Or.inr rfl) (A1 B2 hr (by rfl) (Aa (pv 2) (Aa (A0 (Ay (K:=K)) (by rfl) T.n_len PySem.boot_len (Aa (pv 1) Ah)) Ah))))
    (Ai (A5 (i:=4) Cm (by rfl) (by first | exact Or.inl rfl | exact Or.inr rfl) Ev)
    (Ai (A5 (i:=5) Cm (by rfl) (by first | exact Or.inl rfl | exact Or.inr rfl) (Cl Ah))
    (Ai (Au6 (fun _ _=>(Am (A5 (i:=4) Cm (by rfl) (by first | exact Or.inl rfl | exact Or.inr rfl) (Af0 Ih (pv 0) T.cl_Growth Ey hr (Aa (pv 3) Ah)))))
    (Bh6 (i:=6) Cm (by rfl) (by rfl) (by rfl) T.m_HoleError T.k_HoleError (fun _=>(Am (A5 (i:=5) Cm (by rfl) (by first | exact Or.inl rfl | exact Or.inr rfl) (Xl hn_L_marks hr.n (by rfl) (Aa (pv 6) Ah)))))
    v6))
    (Ai (Bu (Dl (A1 Bo hr (by rfl) (Aa (pv 3) (Aa Ak (Aa (Bf Lb (A0 (Ay (K:=K)) (by rfl) T.n_len PySem.boot_len (Aa (pv 1) Ah)) Ak) Ah))))) (Am (Bb (F4 (B8 (Jz (K:=K) hu8) (pv 5) (Cl Ah) (A9 _)) (F4 (A0 Ad5 (by rfl) T.n_isinstance A4 (Aa (pv 4) (Aa (Jr (v:=.ty "dict") rfl T.n_dict Hg rfl) Ah))) (F3 (B8 Dk (Xk (u1 hu8) (pv 4) (pv 3) (fun _ _=>rfl)) Ak (A9 _))))))) Be)
    (Am (Bb (F4 (B8 (Jz (K:=K) hu8) (pv 5) (A1 Em hr (by rfl) (Aa Ak Ah)) (A9 _)) (F3 (B8 Rc (pv 4) Ev (A9 _))))))))))),?_⟩
   obtain⟨_,us,z,hqa,ra⟩:=id hL
   cases z
   have usl:us.length=xs.length:=by have:=ra.length;simpa using this
   refine A6 (fun σ' H'=>∃ (v:V) (e:DE),σ'=[some (.ref g),some (.ref a),some (.int c),some v,none,none,none]/\Same H H'/\RepE K H' v e) ?_ fun key=>?_
   rotate_left
   . exact ⟨_,rfl,_,rfl,a,us,rfl,.inl hqa,_,_,rfl,by omega,fun v e H' s' hv=>key _ _ ⟨v,e,rfl,s',hv⟩⟩
   rintro _ H1 ⟨v,e,rfl,s1,hv⟩
   refine Qc [some (.ref g),some (.ref a),some (.int c),some v,some .non,none,none] H1 (fun _ h=>h) ?_
   refine A6 (fun σ' H'=>∃ M:Addr,σ'=[some (.ref g),some (.ref a),some (.int c),some v,some .non,some (.ref M),none]/\Same H1 H'/\H' M=some (.lst [])) ?_ fun key=>?_
   rotate_left
   . exact ⟨Nat.zero_le _,fun M hM=>key _ _ ⟨M,rfl,Same.new hM,Ae⟩⟩
   rintro _ H2 ⟨M0,rfl,s2,hM0⟩
   have s02:=s1.trans s2
   have x2:=x.same s02
   have hv2:=RepE.same s2 hv
   obtain⟨dx,fs,hg,l1,l2,l3,l4,l5,lm⟩:=x2.ob
   refine A6 (fun σ' H'=>(∃ (M:Addr) (o6:Option V),σ'=[some (.ref g),some (.ref a),some (.int c),some v,some .non,some (.ref M),o6]/\Same H2 H'/\H' M=some (.lst ((N8 11).map V.bl))/\¬B7 e (xs.length:Int)=true) ∨
    ∃ (D:Addr) (i:Nat) (sm:Ms) (o6:Option V),σ'=[some (.ref g),some (.ref a),some (.int c),some v,some (.ref D),some (.ref M0),o6]/\Same H2 H'/\e=.d (.int (i:Int))/\ss[i]?=some sm/\H' D=some (.dK (cK sm))) ?_ fun key=>?_
   rotate_left
   . by_cases hb:B7 e (xs.length:Int)=true
     . obtain⟨i',rfl,h0,h1⟩:=D4 hb
       obtain⟨i,rfl⟩:=Int.eq_ofNat_of_zero_le h0
       refine⟨_,rfl,g,dx,fs,rfl,hg,lm.2.2.2.2.1,_,rfl,g,pc,sh,ed,en,v,_,p,xs,es,ss,bs,rfl,x2,hv2,fun z=>absurd hb z,fun j sm ej hs=>?_⟩
       have:i=j:=by
        have:=L2.D.int.inj (DE.d.inj ej)
        omega
       subst this
       exact fun D H' hD s' eD=>key _ _ (.inr ⟨D,i,sm,_,rfl,s',rfl,hs,eD⟩)
     . refine⟨_,rfl,g,dx,fs,rfl,hg,lm.2.2.2.2.1,_,rfl,g,pc,sh,ed,en,v,e,p,xs,es,ss,bs,rfl,x2,hv2,fun _ H3 s3=>?_,fun j sm ej hs=>absurd ?_ hb⟩
       . refine⟨Ad,true,rfl,T.s_NoStage_HoleError,?_⟩
         refine ifP rfl fun y hy=>?_
         have sy:=Same.new (o:=excX y (.ref Ad) none) hy
         have ey:upd H3 y (excX y (.ref Ad) none) y=some (excX y (.ref Ad) none):=Ae
         generalize upd H3 y (excX y (.ref Ad) none)=Gy at sy ey ⊢
         exact ⟨_,rfl,y,Ad,11,rfl,ey,⟨T.x_NoStage,T.iv_NoStage,Vt T.i_NoStage_NoShape T.i_NoStage_NoText T.i_NoStage_NoName T.i_NoStage_NoLevel T.i_NoStage_NoChain T.i_NoStage_NoTable T.i_NoStage_NoTurn T.i_NoStage_NoMap T.i_NoStage_NoGlue T.i_NoStage_NoPrime T.i_NoStage_NoStage T.i_NoStage_NoPair T.i_NoStage_NoRow T.i_NoStage_NoPiece T.i_NoStage_NoRound⟩,fun M H' s' hM=>key _ _ (.inl ⟨M,_,rfl,(s3.trans sy).trans s',hM,hb⟩)⟩
       . rw [ej]
         have:=(List.getElem?_eq_some_iff.mp hs).1
         rw [x.gw.ls] at this
         exact Hh (by omega) (by omega)
   rintro σ3 H3 alt
   have hfrom:Yb e 0 ((xs.length:Int)-1)=B7 e (xs.length:Int):=by rw [Oe,Int.sub_add_cancel]
   rcases alt with ⟨M,o6,rfl,s3,hM,hb⟩|⟨D,i,sm,o6,rfl,s3,rfl,hs,eD⟩
   . refine⟨_,rfl,_,rfl,a,us,rfl,.inl ((s02.trans s3).seq hqa),_,_,rfl,rfl,v,e,0,_,rfl,RepE.same s3 hv2,_,rfl,?_⟩
     rw [usl,hfrom]
     refine ifN hb ?_
     refine⟨_,rfl,11,rfl,fun M2 H4 s4 hM2=>⟨blD (N8 11),blD (Nx 11),Nq (s4 _ _ hM),Nq hM2,Nat.le_trans (Ac4 _) (by decide),_,rfl,?_⟩⟩
     rw [show Nx 11=N8 11 from Re 11,Dg]
     refine ifP rfl ?_
     refine⟨_,rfl,rfl,?_⟩
     exact k H4 ((s02.trans s3).trans s4)
   . have hil:i<xs.length:=by rw [←x.gw.ls];exact (List.getElem?_eq_some_iff.mp hs).1
     cases (show v=.int (i:Int) from hv)
     have hown:=shx.own i sm hs
     have okS:=(x.gw.sok i sm hs).1
     have hk:(i:Int)∈Bn sm:=(Ab7 okS.nz).mp (by rw [hown];decide)
     have hlk:lookI sm (i:Int)=some 1:=by
      obtain⟨r,hr,er⟩:=List.mem_map.mp hk
      have e1:=X2 okS.nd hr
      rw [er] at e1
      have e2:getI sm (i:Int)=r.2:=by unfold getI;rw [e1];rfl
      rw [e1,←e2,hown]
     refine⟨_,rfl,_,rfl,a,us,rfl,.inl ((s02.trans s3).seq hqa),_,_,rfl,rfl,_,.d (.int (i:Int)),0,_,rfl,rfl,_,rfl,?_⟩
     rw [usl,hfrom,Hh (by omega) (by omega)]
     refine ifP rfl ?_
     refine⟨_,rfl,Nat.zero_le _,fun l hl=>?_⟩
     have s4:=Same.new (o:=.lst []) hl
     have el:upd H3 l (.lst []) l=some (.lst []):=Ae
     generalize upd H3 l (.lst [])=H4 at s4 el ⊢
     have eD4:=s4 _ _ eD
     refine⟨.lst [],.lst [],⟨M0,_,rfl,.of ((s3.trans s4) _ _ hM0),rfl⟩,⟨l,_,rfl,.of el,rfl⟩,by decide,_,rfl,?_⟩
     rw [Dg]
     refine ifP rfl ?_
     refine⟨_,rfl,D,_,rfl,.inl eD4,_,rfl,?_⟩
     refine ifP rfl ?_
     refine⟨_,rfl,_,rfl,D,.int 1,rfl,Yj (.inl eD4) hlk,rfl,?_⟩
     simpa using k H4 ((s02.trans s3).trans s4)
abbrev Cp:Stmt:=Ma (top 45) 1
theorem Ua:FnScope ["self","thing","place","faces","papers","birth"] ["self","thing"] (Aj Cp):=⟨rfl,rfl,rfl,by decide +kernel,rfl,by decide +kernel,by decide +kernel⟩
theorem Ej:(["self","thing","place","faces","papers","birth"]:List Str).Nodup:=by decide +kernel
theorem Ul {f:Addr}{fd:FuncData} (F:Fun K "grow" "Growth.grow" Cp f fd) (T:Txt K mg Al Ap Au Aw Af As Ao At A3 Ax Ag Ad Av A2 Ar Aq Ac) (J2:Has P w K mg base "check_size" ["pieces"] 1 (Wv K)) (Mb:Has P w K mg base "add_faces" ["chain","faces","number"] 2 (Jj K)) (Ee:HasM P w K mg base Ac "settled" ["self","sheet","edge"] 3 (Jo K Ac)) (A11:Has P w K mg base "fits" ["shape","thing"] 4 (Wx K)) (Fr:Has P w K mg base "counted" ["chain","prime"] 1 (Kp K)):FnOk P w K mg base CX0 5 f fd ["self","thing"] (Qn K Ac):=by
 refine F.ok Ua (fun vs H Q E h=>?_) (fun Bw A outer s H vs Q E hr h=>?_)
 . obtain⟨g,pc,sh,ed,en,v,p,xs,q,es,ss,bs,rfl,x,hv,hfd,hlt,shx,k3⟩:=h
   rfl
 . obtain⟨g,pc,sh,ed,en,v,p,xs,q,es,ss,bs,rfl,x,hv,hfd,hlt,shx,k3⟩:=h
   have hu8:(A.deeper (PyProof.Rows.envOfC "Growth.grow" (Aj Cp) s.heap.objs.size f Bw)).units+8<cLine:=by have:=hr.units;omega
   refine⟨_,(Ai (A5 (i:=2) Ej (by rfl) (by first | exact Or.inl rfl | exact Or.inr rfl) (A0 (Ay (K:=K)) (by rfl) T.n_len PySem.boot_len (Aa (B6 (K:=K) (pv 0)) Ah)))
    (Ai (Bu (F2 (Dl (A1 A11 hr (by rfl) (Aa (B6 (K:=K) (pv 0)) (Aa (pv 1) Ah))))) (Am Ae8) Be)
    (Ai (Di (A1 J2 hr (by rfl) (Aa (Bf (Fp (K:=K)) (B6 (K:=K) (pv 0)) (Cl (Aa (pv 1) Ah))) Ah)))
    (Ai (A5 (i:=3) Ej (by rfl) (by first | exact Or.inl rfl | exact Or.inr rfl) P5)
    (Ai (Di (A1 Mb hr (by rfl) (Aa (pv 3) (Aa (pv 1) (Aa Ak Ah)))))
    (Ai (A5 (i:=4) Ej (by rfl) (by first | exact Or.inl rfl | exact Or.inr rfl) (Af1 (pv 0) T.cl_Growth Ee hr (Aa (Bi1 (A83 (pv 2) Ak Bh0) (by rfl) (by rfl) (by intro z;cases z) (Nat.le_of_ble_eq_true rfl)) (Aa (A1 Fr hr (by rfl) (Aa (pv 3) (Aa (B6 (K:=K) (pv 0)) Ah))) Ah))))
    (Ai (Di (Le (K:=K) PySem.F.plainAttrs_list PySem.F.slot_list_append PySem.F.type_list_append Do (B6 (K:=K) (pv 0)) (Aa (pv 1) Ah)))
    (Ai (Di (Le (K:=K) PySem.F.plainAttrs_list PySem.F.slot_list_append PySem.F.type_list_append Do (B6 (K:=K) (pv 0)) (Aa (Bx (Bm (K:=K)) (pv 4) Ak (fun _ _=>rfl)) Ah)))
    (Ai (Di (Le (K:=K) PySem.F.plainAttrs_list PySem.F.slot_list_append PySem.F.type_list_append Do (B6 (K:=K) (pv 0)) (Aa (Bx (Bm (K:=K)) (pv 4) Ak (fun _ _=>rfl)) Ah)))
    (Ai (Bu (A7 Dk (A0 Th (by rfl) T.n_len PySem.boot_len (Aa (Bx (Bm (K:=K)) (pv 4) Ak (fun _ _=>rfl)) Ah)) Ak (A9 _)) (Am (Bb Ev)) Be)
    (Ai (A5 (i:=5) Ej (by rfl) (by first | exact Or.inl rfl | exact Or.inr rfl) (A0 (Tg (by rfl)) (by rfl) T.n_max Kk (Aa (Bx (Bm (K:=K)) (pv 4) Ak (fun _ _=>rfl)) Ah)))
    (Ai (Au7 (u1 hu8) (B6 (K:=K) (pv 0)) (pv 5) (pv 2) (by rfl))
    (Am (Bb (pv 5))))))))))))))),?_⟩
   obtain⟨dx,fs,hg,l1,l2,l3,l4,l5,lm⟩:=x.ob
   obtain⟨us,hpc,r⟩:=x.pcs
   have hul:us.length=xs.length:=by have:=r.length;simpa using this
   have hp2:=x.pr.1.two
   have hp98:=x.pr.2
   have n40:=x.gw.n40
   have hcnt:=Gm x.gw.shp
   refine⟨_,rfl,g,Ac,dx,fs,_,rfl,hg,T.cl_Growth,T.na_Growth_pieces,l2,pc,us,rfl,.inl (.of hpc),?_⟩
   rw [hul]
   refine⟨_,rfl,g,Ac,dx,fs,_,rfl,hg,T.cl_Growth,T.na_Growth_pieces,l2,_,rfl,pc,v,.d (tI q),xs,rfl,⟨pc,us,rfl,.of hpc,r⟩,hv,fun H1 s1=>⟨_,rfl,?_⟩⟩
   have x1:=x.same s1
   have hg1:=s1 _ _ hg
   have hpc1:=s1 _ _ hpc
   have hf:Bl7 xs (.d (tI q))=true:=hfd
   refine ifN (by rw [hf];decide) ?_
   have hFit:=Ab9 hcnt hfd
   refine⟨_,rfl,g,Ac,dx,fs,_,rfl,hg1,T.cl_Growth,T.na_Growth_pieces,l2,_,rfl,Bh (by simp),fun m1 hm1=>⟨pc,m1,us,[v],rfl,rfl,?_,.of Ae,Bh (by simp;omega),fun m2 hm2=>?_⟩⟩
   . exact .of (Same.new hm1 _ _ hpc1)
   have s3:=(s1.trans (Same.new (o:=.lst [v]) hm1)).trans (Same.new (o:=.lst (us++[v])) hm2)
   refine⟨m2,us++[v],rfl,.of Ae,by simp;omega,?_⟩
   generalize upd (upd H1 m1 (.lst [v])) m2 (.lst (us++[v]))=H3 at s3
   have x3:=x.same s3
   refine fun D hD=>?_
   have s4:Same H3 (upd H3 D (.dK (cK []))):=Same.new hD
   refine⟨_,rfl,_,rfl,D,v,[],q,1,rfl,Ae,Rep.same (s3.trans s4) hv,?_,fun H5 st hD5=>?_⟩
   . have:=hFit.cnt
     simp;omega
   have s5:Same H H5:=s3.trans (As5 hD st)
   have x5:=x.same s5
   have hg5:=s5 _ _ hg
   have kad:∀ y∈Bn (addF [] q 1),y∈q:=fun y hy=>Z0 (Nat.le_refl _) hy
   have nad:nd (addF [] q 1):=X1 (ms:=[]) (by simp [nd]) q 1 q.length
   have lev:∀ y∈q,0<=y/\y<(xs.length:Int)/\(xs.getD y.toNat []).length-1+1=q.length-1:=fun y hy=>by
    obtain⟨w,hw,hlv⟩:=hFit.bel y hy
    have h0:=hFit.low y hy
    have hl:=(List.getElem?_eq_some_iff.mp hw).1
    refine⟨h0,by omega,?_⟩
    rw [List.getD_eq_getElem?_getD,hw]
    exact hlv
   have lad:(addF [] q 1).length<=41:=F5 nad fun y hy=>by
    have:=lev y (kad y hy)
    omega
   refine⟨_,rfl,g,dx,fs,rfl,hg5,lm.2.1,fun P hP=>⟨_,rfl,Ae,[(.inl (xs.length:Int),.int 1)],rfl,by simp,?_⟩⟩
   obtain⟨H6,e6⟩:∃ Z,Z=upd (upd H5 P (.dK [])) P (.dK (Gw [] [((.inl (xs.length:Int):Key),V.int 1)])):=⟨_,rfl⟩
   have hP6:H6 P=some (.dK (cK [((xs.length:Int),1)])):=by rw [e6];exact Ae
   have s6':Same H5 H6:=by rw [e6];exact (Same.new (o:=.dK []) hP).turn hP
   rw [←e6]
   clear e6
   have s6:=s5.trans s6'
   refine⟨_,rfl,_,rfl,g,Ac,dx,fs,_,rfl,s6 _ _ hg,T.cl_Growth,T.na_Growth_prime,l1,D,addF [] q 1,p,rfl,s6' _ _ hD5,by omega,nad,by omega,fun F H7 hF s7' hF7=>?_⟩
   have s7:=s6.trans s7'
   have x7:=x.same s7
   have en5:=x5.ens
   have en6:=s6 _ _ x.ens
   refine⟨g,pc,sh,ed,en,P,F,p,xs,es,ss,bs,[((xs.length:Int),1)],modI p (addF [] q 1),q.length-1,q,rfl,x7,s7' _ _ hP6,hF7,(A8 en5 hP).symm,(A8 en6 hF).symm,⟨?_,?_⟩,Ay5 nad (by omega),?_,?_,shx,P1.first (fun f hf=>(lev f hf).1),rfl,?_⟩
   . simp [nd]
   . intro y hy
     simp at hy
     subst hy
     exact ⟨by simp,hp2⟩
   . intro y hy
     simp [Bn] at hy
     omega
   . exact fun y hy=>lev y (kad y (Ba8 hy))
   intro t s' e' ms' me' H8 s8' ht hs' he' ns' ne' ok1 ok2 kk1 kk2 hno nok
   have s8:=s7.trans s8'
   have x8:=x.same s8
   have hg8:=s8 _ _ hg
   have hpc8:=s8 _ _ hpc
   have r8:=Reps.same s8 r
   have hv8:TI K H8 v q:=Rep.same s8 hv
   obtain⟨ds,hed,dl,dg⟩:=x8.eds.ex
   obtain⟨cs,hsh,cl,cg⟩:=x8.shs.ex
   have dsn:=Tb dl dg he' ne'
   have csn:=Tb cl cg hs' ns'
   have dl40:ds.length<=40:=by rw [dl,x.gw.le];exact n40
   have cl40:cs.length<=40:=by rw [cl,x.gw.ls];exact n40
   obtain⟨n1,n2,n3⟩:=x.ne
   have en8:=x8.ens
   have gp:g≠pc:=Hw hg8 hpc8 (fun z=>by cases z)
   have gs:g≠sh:=Hw hg8 hsh (fun z=>by cases z)
   have ge:g≠ed:=Hw hg8 hed (fun z=>by cases z)
   have tp:t≠pc:=Hw ht hpc8 (fun z=>by cases z)
   have ts:t≠sh:=Hw ht hsh (fun z=>by cases z)
   have te:t≠ed:=Hw ht hed (fun z=>by cases z)
   have ep:e'≠pc:=Hw he' hpc8 (fun z=>by cases z)
   have es':e'≠sh:=Hw he' hsh (fun z=>by cases z)
   have ee:e'≠ed:=Hw he' hed (fun z=>by cases z)
   have np:en≠pc:=Hw en8 hpc8 (fun z=>by cases z)
   have nsh:en≠sh:=Hw en8 hsh (fun z=>by cases z)
   have ned:en≠ed:=Hw en8 hed (fun z=>by cases z)
   have rs:Reps K H8 (us++[v]) ((xs++[q]).map tI):=by
    rw [List.map_append]
    exact Reps.append r8 ⟨_,_,rfl,hv8,rfl⟩
   refine⟨_,rfl,g,Ac,dx,fs,_,rfl,hg8,T.cl_Growth,T.na_Growth_pieces,l2,.inl ⟨rfl,us,.of hpc8⟩,_,rfl,pc,us,v,rfl,rfl,hpc8,Du (by omega),?_⟩
   refine⟨_,rfl,g,Ac,dx,fs,_,rfl,(by rw [An gp];exact hg8),T.cl_Growth,T.na_Growth_sheets,l3,.inl ⟨rfl,_,.of (by rw [An n1.symm];exact hsh)⟩,_,rfl,t,_,_,_,rfl,rfl,.of (by rw [An tp];exact ht),at0 _ _,sh,_,_,rfl,rfl,(by rw [An n1.symm];exact hsh),Du (by rw [List.length_map];omega),?_⟩
   refine⟨_,rfl,g,Ac,dx,fs,_,rfl,(by rw [An gs,An gp];exact hg8),T.cl_Growth,T.na_Growth_edges,l4,.inl ⟨rfl,_,.of (by rw [An n3.symm,An n2.symm];exact hed)⟩,_,rfl,t,_,_,_,rfl,rfl,.of (by rw [An ts,An tp];exact ht),at1 _ _ _,ed,_,_,rfl,rfl,(by rw [An n3.symm,An n2.symm];exact hed),Du (by rw [List.length_map];omega),?_⟩
   rw [Af4,Af4]
   have put:=fun bs' gw=>x8.put (us:=us++[v]) (ds:=ds++[e']) (cs:=cs++[s']) (xs':=xs++[q]) (es':=es++[me']) (ss':=ss++[ms']) (bs':=bs') rs dsn.1 dsn.2 csn.1 csn.2 gw
   have gwn:=fun bs' hb=>x.gw.grow (bs':=bs') hFit hlt ⟨ok1,kk1,ok2,kk2,hno⟩ hb
   have frn:=fun bs'=>FrG.four (pc:=pc) (sh:=sh) (ed:=ed) (en:=en) (o1:=.lst (us++[v])) (o2:=.lst ((cs++[s']).map V.ref)) (o3:=.lst ((ds++[e']).map V.ref)) (o4:=.dK (cK bs')) s8
   obtain⟨H9,e9⟩:∃ Z,Z=upd (upd (upd H8 pc (.lst (us++[v]))) sh (.lst ((cs++[s']).map V.ref))) ed (.lst ((ds++[e']).map V.ref)):=⟨_,rfl⟩
   rw [←e9] at put frn ⊢
   have hg9:H9 g=some (.ins Ac dx fs):=by rw [e9,An ge,An gs,An gp];exact hg8
   have ht9:H9 t=some (.tup [.ref s',.ref e']):=by rw [e9,An te,An ts,An tp];exact ht
   have he9:H9 e'=some (.dK (cK me')):=by rw [e9,An ee,An es',An ep];exact he'
   have en9:H9 en=some (.dK (cK bs)):=by rw [e9,An ned,An nsh,An np];exact en8
   clear e9
   refine A6 (fun σ' H'=>σ'=[some (.ref g),some v,some (.int (xs.length:Int)),some (.ref D),some (.ref t),none]/\H9=H') ?_ fun key0=>key0 _ _ ⟨rfl,rfl⟩
   rintro _ _ ⟨rfl,rfl⟩
   refine⟨_,rfl,t,_,_,_,rfl,rfl,.of ht9,at1 _ _ _,e',cK me',rfl,he9,rfl,_,rfl,?_⟩
   rw [O7]
   by_cases hz:me'=[]
   . subst hz
     refine ifP (by simp) ?_
     have w:=put bs (gwn bs (.inl ⟨rfl,rfl⟩))
     have f:=frn bs
     rw [Bc7 en9] at w f
     exact k3 _ _ _ _ _ f w (shx.grow x.gw nok) (.inl ⟨rfl,rfl⟩)
   refine ifN (by simpa using hz) ?_
   refine⟨_,rfl,t,_,_,_,rfl,rfl,.of ht9,at1 _ _ _,e',Bn me',cK me',rfl,he9,Aa6 me',Aa5 hz,fun b hb1 hb2=>?_⟩
   have tb:Top me' b:=⟨hb1,hb2⟩
   refine⟨_,rfl,_,rfl,g,Ac,dx,fs,_,rfl,hg9,T.cl_Growth,T.na_Growth_enders,l5,_,rfl,en,_,rfl,A25 en9 (Nat.le_trans x.gw.blen (by decide)),?_⟩
   refine⟨_,rfl,?_⟩
   obtain⟨b1,b2,b3⟩:=kk2 b hb1
   exact k3 _ _ _ _ _ (frn _) (put _ (gwn _ (.inr ⟨b,tb,rfl⟩))) (shx.grow x.gw nok) (.inr ⟨b,tb,rfl⟩)
abbrev Cf:Stmt:=top 67
theorem Qy:FnScope ["_law_growth","_law_pieces","_law_pairs","_law_cell","_law_k","_law_stage","_law_found","_law_marks_here","_law_e","_law_due"] ["_law_growth","_law_pieces","_law_pairs","_law_cell"] (Aj Cf):=⟨rfl,rfl,rfl,by decide +kernel,rfl,by decide +kernel,by decide +kernel⟩
theorem Bl:(["_law_growth","_law_pieces","_law_pairs","_law_cell","_law_k","_law_stage","_law_found","_law_marks_here","_law_e","_law_due"]:List Str).Nodup:=by decide +kernel
theorem Ri {f:Addr}{fd:FuncData} (F:Fun K "_law_alive_told" "_law_alive_told" Cf f fd) (T:Txt K mg Al Ap Au Aw Af As Ao At A3 Ax Ag Ad Av A2 Ar Aq Ac) (B2:Has P w K mg base "_law_thing_by" ["_law_cell","_law_many"] 1 (Jh K)) (Ie:Has P w K mg base "_law_due_alive" ["_law_pieces","_law_pairs","_law_k","_law_stage"] 3 (Wy K)) (hmxd_Growth_alive:HasMXD P w K mg base Ac "alive" ["self","k","stage"] [.non] 4 (Jn K Ac Af Ad)) (Ez:A66 P w K mg base Ac "alive" ["self","k","stage"] 4 (Jn K Ac Af Ad)) (hn_L_marks:HasN P w K mg base "_law_marks" ["_law_e"] 1 (Ji K Ap Au Aw Af As Ao At A3 Ax Ag Ad Av A2 Ar Aq)) (D6:Has P w K mg base "_law_whole" ["_law_found"] 1 (Et K)):FnOk P w K mg base CX0 5 f fd ["_law_growth","_law_pieces","_law_pairs","_law_cell"] (Hn K Ac):=by
 refine F.ok Qy (fun vs H Q E h=>?_) (fun Bw A outer s H vs Q E hr h=>?_)
 . obtain⟨g,pc,sh,ed,en,a,b,c,p,xs,es,ss,bs,rfl,x,hL,hB,k⟩:=h
   rfl
 . obtain⟨g,pc,sh,ed,en,a,b,c,p,xs,es,ss,bs,rfl,x,hL,hB,k⟩:=h
   have hu8:(A.deeper (PyProof.Rows.envOfC "_law_alive_told" (Aj Cf) s.heap.objs.size f Bw)).units+8<cLine:=by have:=hr.units;omega
   refine⟨_,(Ai (A5 (i:=4) Bl (by rfl) (by first | exact Or.inl rfl | exact Or.inr rfl) (A1 B2 hr (by rfl) (Aa (Bf Br (Bf C8 (pv 3) Ak) Ak) (Aa Ak Ah))))
    (Ai (A5 (i:=5) Bl (by rfl) (by first | exact Or.inl rfl | exact Or.inr rfl) (A1 B2 hr (by rfl) (Aa (Bf C8 (pv 3) Ak) (Aa (A0 (Ay (K:=K)) (by rfl) T.n_len PySem.boot_len (Aa (pv 1) Ah)) Ah))))
    (Ai (A5 (i:=6) Bl (by rfl) (by first | exact Or.inl rfl | exact Or.inr rfl) Ev)
    (Ai (A5 (i:=7) Bl (by rfl) (by first | exact Or.inl rfl | exact Or.inr rfl) (Cl Ah))
    (Ai (Bu (A7 Dk (Bf Br (pv 3) Ak) Ak (A9 _)) (Am (A5 (i:=5) Bl (by rfl) (by first | exact Or.inl rfl | exact Or.inr rfl) Ev)) Be)
    (Ai (Au6 (fun _ _=>(Am (Bu (A7 Dk (Bf Br (pv 3) Ak) Ak (A9 _)) (Am (A5 (i:=6) Bl (by rfl) (by first | exact Or.inl rfl | exact Or.inr rfl) (Av7 Ih (pv 0) T.cl_Growth hmxd_Growth_alive hr (Aa (pv 4) Ah)))) (Am (A5 (i:=6) Bl (by rfl) (by first | exact Or.inl rfl | exact Or.inr rfl) (Af0 Ih (pv 0) T.cl_Growth Ez hr (Aa (pv 4) (Aa (pv 5) Ah))))))))
    (Bh6 (i:=8) Bl (by rfl) (by rfl) (by rfl) T.m_HoleError T.k_HoleError (fun _=>(Am (A5 (i:=7) Bl (by rfl) (by first | exact Or.inl rfl | exact Or.inr rfl) (Xl hn_L_marks hr.n (by rfl) (Aa (pv 8) Ah)))))
    v6))
    (Ai (A5 (i:=9) Bl (by rfl) (by first | exact Or.inl rfl | exact Or.inr rfl) (A1 Ie hr (by rfl) (Aa (pv 1) (Aa (pv 2) (Aa (pv 4) (Aa (pv 5) Ah))))))
    (Am (Bb (F4 (B8 (Jz (K:=K) hu8) (pv 7) (Bx (Bm (K:=K)) (pv 9) Ak (fun _ _=>rfl)) (A9 _)) (F4 (B8 (Jz (K:=K) hu8) (pv 6) (Bx (Bm (K:=K)) (pv 9) Ak (fun _ _=>rfl)) (A9 _)) (F3 (Bh7 (B8 Rc (pv 6) Ev (A9 _)) (F3 (A1 D6 hr (by rfl) (Aa (pv 6) Ah)))))))))))))))),?_⟩
   obtain⟨_,us,z,hqa,ra⟩:=id hL
   cases z
   refine A6 (fun σ' H'=>∃ (vk:V) (ek:DE),σ'=[some (.ref g),some (.ref a),some (.ref b),some (.int c),some vk,none,none,none,none,none]/\Same H H'/\RepE K H' vk ek) ?_ fun key=>?_
   rotate_left
   . exact ⟨_,rfl,_,_,rfl,rfl,⟨by decide,by decide⟩,_,_,rfl,rfl,(by show (0:Int)<1009;decide),_,3,rfl,by decide,fun v e H' s' hv=>key _ _ ⟨v,e,rfl,s',hv⟩⟩
   rintro _ H1 ⟨vk,ek,rfl,s1,hk1⟩
   refine A6 (fun σ' H'=>∃ (vs:V) (e2:DE),σ'=[some (.ref g),some (.ref a),some (.ref b),some (.int c),some vk,some vs,none,none,none,none]/\Same H1 H'/\RepE K H' vs e2) ?_ fun key=>?_
   rotate_left
   . exact ⟨_,rfl,_,_,rfl,rfl,⟨by decide,by decide⟩,_,rfl,a,us,rfl,.inl (s1.seq hqa),_,_,rfl,by omega,fun v e H' s' hv=>key _ _ ⟨v,e,rfl,s',hv⟩⟩
   rintro _ H2 ⟨vs,e2,rfl,s2,h2⟩
   refine Qc [some (.ref g),some (.ref a),some (.ref b),some (.int c),some vk,some vs,some .non,none,none,none] H2 (fun _ h=>h) ?_
   refine A6 (fun σ' H'=>∃ M:Addr,σ'=[some (.ref g),some (.ref a),some (.ref b),some (.int c),some vk,some vs,some .non,some (.ref M),none,none]/\Same H2 H'/\H' M=some (.lst [])) ?_ fun key=>?_
   rotate_left
   . exact ⟨Nat.zero_le _,fun M hM=>key _ _ ⟨M,rfl,Same.new hM,Ae⟩⟩
   rintro _ H4 ⟨M0,rfl,s4,hM0⟩
   refine A6 (t:=tIfS _ _ _) (fun σ' H'=>∃ (v5:V) (e5:DE),σ'=[some (.ref g),some (.ref a),some (.ref b),some (.int c),some vk,some v5,some .non,some (.ref M0),none,none]/\H4=H'/\RepE K H4 v5 e5/\(c%2=1->v5=.non/\e5=.d .non)) ?_ fun key=>?_
   rotate_left
   . refine⟨_,rfl,_,_,rfl,rfl,(by show (0:Int)<2;decide),rfl,_,rfl,?_⟩
     refine ite2 (fun h=>?_) (fun h=>?_)
     . exact key _ _ ⟨.non,.d .non,rfl,rfl,rfl,fun _=>⟨rfl,rfl⟩⟩
     . exact key _ _ ⟨vs,e2,rfl,rfl,RepE.same s4 h2,fun z=>absurd (by simpa using z) h⟩
   rintro _ _ ⟨v5,e5,rfl,rfl,h5,hodd⟩
   have s04:=(s1.trans s2).trans s4
   have x4:=x.same s04
   have hk4:=RepE.same (s2.trans s4) hk1
   have hL4:=Rep.same s04 hL
   have hB4:=Rep.same s04 hB
   obtain⟨dx,fs,hg,l1,l2,l3,l4,l5,lm⟩:=x4.ob
   refine A6 (fun σ' H'=>(∃ (n:Nat) (M:Addr) (o8:Option V),σ'=[some (.ref g),some (.ref a),some (.ref b),some (.int c),some vk,some v5,some .non,some (.ref M),o8,none]/\Same H4 H'/\H' M=some (.lst ((N8 n).map V.bl))/\((¬B7 ek 4=true/\n=4)\/(B7 ek 4=true/\¬e5=.d .non/\¬B7 e5 ((xs.length:Int)+1)=true/\n=11))) ∨
    ∃ (kk st:Int) (o8:Option V),ek=.d (.int kk)/\0<=kk/\kk<4/\((e5=.d .non/\st=(xs.length:Int))\/(e5=.d (.int st)/\0<=st/\st<=(xs.length:Int)))/\σ'=[some (.ref g),some (.ref a),some (.ref b),some (.int c),some vk,some v5,some (.int (F7 xs es bs kk st:Nat)),some (.ref M0),o8,none]/\Same H4 H') ?_ fun key=>?_
   rotate_left
   . refine⟨_,rfl,_,_,rfl,rfl,(by show (0:Int)<2;decide),rfl,_,rfl,?_⟩
     refine ite2 (fun h=>?_) (fun h=>?_)
     . have hc:c%2=1:=by simpa using h
       obtain⟨rfl,rfl⟩:=hodd hc
       refine⟨_,rfl,g,dx,fs,rfl,hg,lm.2.2.2.2.2.2,_,rfl,g,pc,sh,ed,en,vk,.non,ek,.d .non,p,xs,es,ss,bs,rfl,x4,hk4,h5,fun hb H1 s1=>?_,fun hb hn hb2 H1 s1=>?_,fun kk st ekk k0 k4 hst H1 s1=>key _ _ (.inr ⟨kk,st,_,ekk,k0,k4,hst,rfl,s1⟩)⟩
       . refine⟨Af,true,rfl,T.s_NoLevel_HoleError,?_⟩
         refine ifP rfl fun y hy=>?_
         have sy:=Same.new (o:=excX y (.ref Af) none) hy
         have ey:upd H1 y (excX y (.ref Af) none) y=some (excX y (.ref Af) none):=Ae
         generalize upd H1 y (excX y (.ref Af) none)=Gy at sy ey ⊢
         exact ⟨_,rfl,y,Af,4,rfl,ey,⟨T.x_NoLevel,T.iv_NoLevel,Vt T.i_NoLevel_NoShape T.i_NoLevel_NoText T.i_NoLevel_NoName T.i_NoLevel_NoLevel T.i_NoLevel_NoChain T.i_NoLevel_NoTable T.i_NoLevel_NoTurn T.i_NoLevel_NoMap T.i_NoLevel_NoGlue T.i_NoLevel_NoPrime T.i_NoLevel_NoStage T.i_NoLevel_NoPair T.i_NoLevel_NoRow T.i_NoLevel_NoPiece T.i_NoLevel_NoRound⟩,fun M H' s' hM=>key _ _ (.inl ⟨4,M,_,rfl,(s1.trans sy).trans s',hM,.inl ⟨hb,rfl⟩⟩)⟩
       . refine⟨Ad,true,rfl,T.s_NoStage_HoleError,?_⟩
         refine ifP rfl fun y hy=>?_
         have sy:=Same.new (o:=excX y (.ref Ad) none) hy
         have ey:upd H1 y (excX y (.ref Ad) none) y=some (excX y (.ref Ad) none):=Ae
         generalize upd H1 y (excX y (.ref Ad) none)=Gy at sy ey ⊢
         exact ⟨_,rfl,y,Ad,11,rfl,ey,⟨T.x_NoStage,T.iv_NoStage,Vt T.i_NoStage_NoShape T.i_NoStage_NoText T.i_NoStage_NoName T.i_NoStage_NoLevel T.i_NoStage_NoChain T.i_NoStage_NoTable T.i_NoStage_NoTurn T.i_NoStage_NoMap T.i_NoStage_NoGlue T.i_NoStage_NoPrime T.i_NoStage_NoStage T.i_NoStage_NoPair T.i_NoStage_NoRow T.i_NoStage_NoPiece T.i_NoStage_NoRound⟩,fun M H' s' hM=>key _ _ (.inl ⟨11,M,_,rfl,(s1.trans sy).trans s',hM,.inr ⟨hb,hn,hb2,rfl⟩⟩)⟩
     . refine⟨_,rfl,g,dx,fs,rfl,hg,lm.2.2.2.2.2.2,_,rfl,_,rfl,g,pc,sh,ed,en,vk,v5,ek,e5,p,xs,es,ss,bs,rfl,x4,hk4,h5,fun hb H1 s1=>?_,fun hb hn hb2 H1 s1=>?_,fun kk st ekk k0 k4 hst H1 s1=>key _ _ (.inr ⟨kk,st,_,ekk,k0,k4,hst,rfl,s1⟩)⟩
       . refine⟨Af,true,rfl,T.s_NoLevel_HoleError,?_⟩
         refine ifP rfl fun y hy=>?_
         have sy:=Same.new (o:=excX y (.ref Af) none) hy
         have ey:upd H1 y (excX y (.ref Af) none) y=some (excX y (.ref Af) none):=Ae
         generalize upd H1 y (excX y (.ref Af) none)=Gy at sy ey ⊢
         exact ⟨_,rfl,y,Af,4,rfl,ey,⟨T.x_NoLevel,T.iv_NoLevel,Vt T.i_NoLevel_NoShape T.i_NoLevel_NoText T.i_NoLevel_NoName T.i_NoLevel_NoLevel T.i_NoLevel_NoChain T.i_NoLevel_NoTable T.i_NoLevel_NoTurn T.i_NoLevel_NoMap T.i_NoLevel_NoGlue T.i_NoLevel_NoPrime T.i_NoLevel_NoStage T.i_NoLevel_NoPair T.i_NoLevel_NoRow T.i_NoLevel_NoPiece T.i_NoLevel_NoRound⟩,fun M H' s' hM=>key _ _ (.inl ⟨4,M,_,rfl,(s1.trans sy).trans s',hM,.inl ⟨hb,rfl⟩⟩)⟩
       . refine⟨Ad,true,rfl,T.s_NoStage_HoleError,?_⟩
         refine ifP rfl fun y hy=>?_
         have sy:=Same.new (o:=excX y (.ref Ad) none) hy
         have ey:upd H1 y (excX y (.ref Ad) none) y=some (excX y (.ref Ad) none):=Ae
         generalize upd H1 y (excX y (.ref Ad) none)=Gy at sy ey ⊢
         exact ⟨_,rfl,y,Ad,11,rfl,ey,⟨T.x_NoStage,T.iv_NoStage,Vt T.i_NoStage_NoShape T.i_NoStage_NoText T.i_NoStage_NoName T.i_NoStage_NoLevel T.i_NoStage_NoChain T.i_NoStage_NoTable T.i_NoStage_NoTurn T.i_NoStage_NoMap T.i_NoStage_NoGlue T.i_NoStage_NoPrime T.i_NoStage_NoStage T.i_NoStage_NoPair T.i_NoStage_NoRow T.i_NoStage_NoPiece T.i_NoStage_NoRound⟩,fun M H' s' hM=>key _ _ (.inl ⟨11,M,_,rfl,(s1.trans sy).trans s',hM,.inr ⟨hb,hn,hb2,rfl⟩⟩)⟩
   rintro σ5 H5 alt
   have due:∀ (σx:St) (G:Hp) (Pq:V->Hp->Prop),Same H4 G->(∀ v H',Same G H'->Rep K H' v (dueA xs es bs ek e5)->Pq v H')->Wy K [.ref a,.ref b,vk,v5] G Pq (fun _ _ _=>False):=fun σx G Pq g1 h=>⟨a,b,vk,v5,ek,e5,p,xs,es,ss,bs,rfl,Rep.same g1 hL4,Rep.same g1 hB4,x4.gw,RepE.same g1 hk4,RepE.same g1 h5,h⟩
   rcases alt with ⟨n,M,o8,rfl,s5,hM,hcase⟩|⟨kk,st,o8,ekk,k0,k4,hst,rfl,s5⟩
   . refine⟨_,rfl,_,rfl,_,rfl,_,rfl,due [] _ _ s5 fun v H6 s6 hv=>?_⟩
     have hd:dueA xs es bs ek e5=.tup [blD (Nx (n:Int)),.non]:=by
      unfold dueA
      rcases hcase with ⟨z1,rfl⟩|⟨z1,z2,z3,rfl⟩
      . exact if_neg z1
      . rw [if_pos z1]
        cases e5 with
        | nul=>rfl
        | d d=>cases d<;>first | exact absurd rfl z2 | exact if_neg z3
     rw [hd,Re] at hv
     obtain⟨t,us2,rfl,sqt,rv⟩:=hv
     obtain⟨v1,us3,rfl,r1,rv⟩:=rv
     obtain⟨v2,us4,rfl,r2,rv⟩:=rv
     obtain rfl:us4=[]:=rv
     obtain rfl:v2=.non:=r2
     refine⟨_,rfl,_,rfl,t,_,_,_,rfl,rfl,sqt,at0 _ _,blD (N8 n),blD (N8 n),Nq (s6 _ _ hM),r1,Nat.le_trans (Ac4 _) (by decide),_,rfl,?_⟩
     rw [Dg]
     refine ifP rfl ?_
     refine⟨_,rfl,_,rfl,t,_,_,_,rfl,rfl,sqt,at1 _ _ _,.non,.non,rfl,rfl,by decide,_,rfl,?_⟩
     rw [Dg]
     refine ifP rfl ?_
     refine⟨_,rfl,rfl,_,rfl,?_⟩
     refine ifP (by simp) ?_
     exact k H6 ((s04.trans s5).trans s6)
   . refine⟨_,rfl,_,rfl,_,rfl,_,rfl,due [] _ _ s5 fun v H6 s6 hv=>?_⟩
     have hd:dueA xs es bs ek e5=.tup [.lst [],.int (F7 xs es bs kk st:Nat)]:=by
      subst ekk
      unfold dueA
      rw [if_pos (Hh k0 k4)]
      rcases hst with ⟨z1,z2⟩|⟨z1,z2,z3⟩
      . rw [z1,z2]
      . subst z1
        exact if_pos (Hh z2 (by omega))
     rw [hd] at hv
     obtain⟨t,us2,rfl,sqt,rv⟩:=hv
     obtain⟨v1,us3,rfl,r1,rv⟩:=rv
     obtain⟨v2,us4,rfl,r2,rv⟩:=rv
     obtain rfl:us4=[]:=rv
     obtain rfl:v2=.int (F7 xs es bs kk st:Nat):=r2
     refine⟨_,rfl,_,rfl,t,_,_,_,rfl,rfl,sqt,at0 _ _,.lst [],.lst [],⟨M0,_,rfl,.of ((s5.trans s6) _ _ hM0),rfl⟩,r1,by decide,_,rfl,?_⟩
     rw [Dg]
     refine ifP rfl ?_
     refine⟨_,rfl,_,rfl,t,_,_,_,rfl,rfl,sqt,at1 _ _ _,.int (F7 xs es bs kk st:Nat),.int (F7 xs es bs kk st:Nat),rfl,rfl,by simp [dep],_,rfl,?_⟩
     rw [Dg]
     refine ifP rfl ?_
     refine⟨_,rfl,rfl,_,rfl,?_⟩
     refine ifN (by simp) ?_
     refine⟨_,rfl,_,.d (.int (F7 xs es bs kk st:Nat)),rfl,rfl,?_⟩
     exact k H6 ((s04.trans s5).trans s6)
abbrev B5:Stmt:=top 69
theorem Ph:FnScope ["_law_cell","_law_thing","_law_found","_law_marks_here","_law_e","_law_good"] ["_law_cell"] (Aj B5):=⟨rfl,rfl,rfl,by decide +kernel,rfl,by decide +kernel,by decide +kernel⟩
theorem Bs:(["_law_cell","_law_thing","_law_found","_law_marks_here","_law_e","_law_good"]:List Str).Nodup:=by decide +kernel
theorem Pk {f:Addr}{fd:FuncData} (F:Fun K "_law_growth_made" "_law_growth_made" B5 f fd) (T:Txt K mg Al Ap Au Aw Af As Ao At A3 Ax Ag Ad Av A2 Ar Aq Ac) (B2:Has P w K mg base "_law_thing_by" ["_law_cell","_law_many"] 1 (Jh K)) (Bo:Has P w K mg base "_law_is_from_to" ["_law_thing","_law_low","_law_high"] 2 (Mn K)) (Fq:HasM P w K mg base Ac "shape" ["self"] 1 (Qm K Ac)) (hn_L_marks:HasN P w K mg base "_law_marks" ["_law_e"] 1 (Ji K Ap Au Aw Af As Ao At A3 Ax Ag Ad Av A2 Ar Aq)) (Em:Has P w K mg base "_law_only" ["_law_at"] 1 (Mm K)) (hcx_Growth:A67 P w K mg base Ac ["self","prime"] 4 (spX_init K Ac Ag)):FnOk P w K mg base CX0 6 f fd ["_law_cell"] (Wz K Ac):=by
 refine F.ok Ph (fun vs H Q E h=>?_) (fun Bw A outer s H vs Q E hr h=>?_)
 . obtain⟨c,rfl,k⟩:=h
   rfl
 . obtain⟨c,rfl,k⟩:=h
   have hu8:(A.deeper (PyProof.Rows.envOfC "_law_growth_made" (Aj B5) s.heap.objs.size f Bw)).units+8<cLine:=by have:=hr.units;omega
   refine⟨_,(Ai (A5 (i:=1) Bs (by rfl) (by first | exact Or.inl rfl | exact Or.inr rfl) (A1 B2 hr (by rfl) (Aa (pv 0) (Aa Ak Ah))))
    (Ai (A5 (i:=2) Bs (by rfl) (by first | exact Or.inl rfl | exact Or.inr rfl) Ev)
    (Ai (A5 (i:=3) Bs (by rfl) (by first | exact Or.inl rfl | exact Or.inr rfl) (Cl Ah))
    (Ai (Au6 (fun _ _=>(Am (A5 (i:=2) Bs (by rfl) (by first | exact Or.inl rfl | exact Or.inr rfl) (Mr (A88 Ih hcx_Growth hr (by rfl) T.m_Growth (Aa (pv 1) Ah)) T.cl_Growth Fq hr))))
    (Bh6 (i:=4) Bs (by rfl) (by rfl) (by rfl) T.m_HoleError T.k_HoleError (fun _=>(Am (A5 (i:=3) Bs (by rfl) (by first | exact Or.inl rfl | exact Or.inr rfl) (Xl hn_L_marks hr.n (by rfl) (Aa (pv 4) Ah)))))
    v6))
    (Ai (A5 (i:=5) Bs (by rfl) (by first | exact Or.inl rfl | exact Or.inr rfl) (A1 Bo hr (by rfl) (Aa (pv 1) (Aa Ak (Aa Ak Ah)))))
    (Ai (Bu (Dl (pv 5)) (Am (A5 (i:=5) Bs (by rfl) (by first | exact Or.inl rfl | exact Or.inr rfl) (B8 Dk (A0 (Ay (K:=K)) (by rfl) T.n_len PySem.boot_len (Aa (Dj (N':=["_law_k","_law_thing"]) (cap:=[none,some 1]) (by rfl) (by kernel_rfl) (Mq (by rfl) T.n_range (Aa Ak (Aa (pv 1) Ah))) (fun _ _ _ _=>(Bg (i:=0) Br6 (by rfl) (by first | exact Or.inl rfl | exact Or.inr rfl))) (fun _ _ _ _=>(F9 (A7 Dk (Bf Br (pv 1) (pv 0)) Ak (A9 _)))) (fun _ _ _ _=>(pv 0))) Ah)) Ak (A9 _)))) Be)
    (Ai (Bu (Dl (pv 5)) (Am (Bb (F4 (B8 (Jz (K:=K) hu8) (pv 3) (Cl Ah) (A9 _)) (F3 (B8 (Jz (K:=K) hu8) (pv 2) (Cl Ah) (A9 _)))))) Be)
    (Am (Bb (F4 (B8 (Jz (K:=K) hu8) (pv 3) (A1 Em hr (by rfl) (Aa Ak Ah)) (A9 _)) (F3 (B8 Rc (pv 2) Ev (A9 _))))))))))))),?_⟩
   refine A6 (fun σ' H'=>∃ (v:V) (e:DE),σ'=[some (.int c),some v,none,none,none,none]/\Same H H'/\RepE K H' v e) ?_ fun key=>?_
   rotate_left
   . exact ⟨_,rfl,_,99,rfl,by decide,fun v e H' s' hv=>key _ _ ⟨v,e,rfl,s',hv⟩⟩
   rintro _ H1 ⟨v,e,rfl,s1,hv⟩
   refine Qc [some (.int c),some v,some .non,none,none,none] H1 (fun _ h=>h) ?_
   refine A6 (fun σ' H'=>∃ M:Addr,σ'=[some (.int c),some v,some .non,some (.ref M),none,none]/\Same H1 H'/\H' M=some (.lst [])) ?_ fun key=>?_
   rotate_left
   . exact ⟨Nat.zero_le _,fun M hM=>key _ _ ⟨M,rfl,Same.new hM,Ae⟩⟩
   rintro _ H2 ⟨M0,rfl,s2,hM0⟩
   have s02:=s1.trans s2
   have hv2:=RepE.same s2 hv
   refine A6 (fun σ' H'=>(∃ (M:Addr) (o4:Option V),σ'=[some (.int c),some v,some .non,some (.ref M),o4,none]/\Same H2 H'/\H' M=some (.lst ((N8 10).map V.bl))/\¬O9 e) ∨
    ∃ (l:Addr) (o4:Option V),σ'=[some (.int c),some v,some (.ref l),some (.ref M0),o4,none]/\Same H2 H'/\H' l=some (.lst [])/\O9 e) ?_ fun key=>?_
   rotate_left
   . refine⟨_,rfl,?_⟩
     intro g dx ng ndx nedx
     have sN:Same H2 (upd (upd H2 dx (.own g)) g (.ins Ac dx [])):=(Same.new ndx).turn ng
     have eg:upd (upd H2 dx (.own g)) g (.ins Ac dx []) g=some (.ins Ac dx []):=Ae
     generalize upd (upd H2 dx (.own g)) g (.ins Ac dx [])=H3 at sN eg ⊢
     refine⟨g,dx,v,e,rfl,eg,RepE.same sN hv2,fun hP H4 s4=>?_,fun p ep hP h98 pc sh ed en H4 npc nsh ned nen sx x=>⟨rfl,?_⟩⟩
     . refine⟨Ag,true,rfl,T.s_NoPrime_HoleError,?_⟩
       refine ifP rfl fun y hy=>?_
       have sy:=Same.new (o:=excX y (.ref Ag) none) hy
       have ey:upd H4 y (excX y (.ref Ag) none) y=some (excX y (.ref Ag) none):=Ae
       generalize upd H4 y (excX y (.ref Ag) none)=Gy at sy ey ⊢
       exact ⟨_,rfl,y,Ag,10,rfl,ey,⟨T.x_NoPrime,T.iv_NoPrime,Vt T.i_NoPrime_NoShape T.i_NoPrime_NoText T.i_NoPrime_NoName T.i_NoPrime_NoLevel T.i_NoPrime_NoChain T.i_NoPrime_NoTable T.i_NoPrime_NoTurn T.i_NoPrime_NoMap T.i_NoPrime_NoGlue T.i_NoPrime_NoPrime T.i_NoPrime_NoStage T.i_NoPrime_NoPair T.i_NoPrime_NoRow T.i_NoPrime_NoPiece T.i_NoPrime_NoRound⟩,fun M H' s' hM=>key _ _ (.inl ⟨M,_,rfl,((sN.trans s4).trans sy).trans s',hM,hP⟩)⟩
     . obtain⟨dx',fs,hg,l1,l2,l3,l4,l5,lm⟩:=x.ob
       have s24:Same H2 H4:=fun c o q=>sx c o (A8 q ng) (sN _ _ q)
       refine⟨g,dx',fs,rfl,hg,lm.2.2.2.1,g,pc,sh,ed,en,p,[],[],[],[],rfl,x,fun l us H5 nl s5 el rl=>?_⟩
       obtain rfl:us=[]:=rl
       exact key _ _ (.inr ⟨l,_,rfl,s24.trans s5,el,⟨p,ep,hP,h98⟩⟩)
   rintro σ3 H3 alt
   obtain⟨fo,ma,o4,s3,rfl,alt2⟩:∃ (fo ma:V) (o4:Option V),Same H2 H3/\σ3=[some (.int c),some v,some fo,some ma,o4,none]/\((∃ M,fo=.non/\ma=.ref M/\H3 M=some (.lst ((N8 10).map V.bl))/\¬O9 e)\/∃ l,fo=.ref l/\ma=.ref M0/\H3 l=some (.lst [])/\O9 e):=by
    rcases alt with ⟨M,o4,rfl,s3,h1,h2⟩|⟨l,o4,rfl,s3,h1,h2⟩
    . exact ⟨_,_,o4,s3,rfl,.inl ⟨M,rfl,rfl,h1,h2⟩⟩
    . exact ⟨_,_,o4,s3,rfl,.inr ⟨l,rfl,rfl,h1,h2⟩⟩
   have hv3:=RepE.same s3 hv2
   refine A6 (fun σ' H'=>σ'=[some (.int c),some v,some fo,some ma,o4,some (.bl (Yb e 2 97))]/\H3=H') ?_ fun key=>?_
   rotate_left
   . exact ⟨_,rfl,v,e,2,97,rfl,hv3,key _ _ ⟨rfl,rfl⟩⟩
   rintro _ _ ⟨rfl,rfl⟩
   refine A6 (t:=tIfS _ _ _) (fun σ' H'=>∃ b:Bool,σ'=[some (.int c),some v,some fo,some ma,o4,some (.bl b)]/\Same H3 H'/\(b=true↔O9 e)) ?_ fun key=>?_
   rotate_left
   . refine⟨_,rfl,_,rfl,?_⟩
     by_cases hf:Yb e 2 97=true
     rotate_left
     . refine ifN hf ?_
       refine key _ _ ⟨_,rfl,Same.refl H3,⟨fun z=>absurd z hf,fun ⟨p,ep,hp,h98⟩=>absurd ?_ hf⟩⟩
       rw [ep]
       show (decide ((2:Int)<=p)&&decide (p<=97))=true
       rw [decide_eq_true hp.two,decide_eq_true (by omega)]
       rfl
     refine ifP hf ?_
     obtain⟨i,rfl,i2,i97⟩:∃ i,e=.d (.int i)/\2<=i/\i<=97:=by
      cases e with
      | nul=>cases hf
      | d d =>
        cases d with
        | int i =>
          have:(decide ((2:Int)<=i)&&decide (i<=97))=true:=hf
          simp at this
          exact ⟨i,rfl,this⟩
        | _=>cases hf
     cases (show v=.int i from hv)
     refine⟨_,rfl,_,_,rfl,⟨by decide,by decide,by omega,by omega⟩,fun D hD=>?_⟩
     refine Fh (fun j zs τ G=>j<=(i-2).toNat/\Same H3 G/\G D=some (.lst zs)/\zs.length<=j/\(zs.length=0↔∀ m:Nat,m<j->¬i%(2+(m:Int))=0)/\∃ o,τ=[o,some (.int i)])
      ⟨Nat.zero_le _,Same.new hD,Ae,Nat.le_refl _,⟨fun _ m hm=>absurd hm (Nat.not_lt_zero _),fun _=>rfl⟩,none,rfl⟩ ?_ ?_
     . rintro j zs τ G hj ⟨_,g1,hDG,zl,hz,o,rfl⟩
       have hj2:j<(i-2).toNat:=by omega
       refine⟨_,rfl,_,rfl,_,_,rfl,rfl,(by show (0:Int)<2+(j:Int);omega),rfl,_,rfl,?_⟩
       refine ite2 (fun h1=>?_) (fun h1=>?_)
       . have h2:i%(2+(j:Int))=0:=by simpa using h1
         refine⟨_,rfl,hDG,Du (by omega),by omega,g1.turn hD,Ae,by simp;omega,⟨fun z=>by simp at z,fun z=>absurd h2 (z j (by omega))⟩,_,rfl⟩
       . have h2:¬i%(2+(j:Int))=0:=by simpa using h1
         refine⟨by omega,g1,hDG,by omega,hz.trans ⟨fun z m hm=>?_,fun z m hm=>z m (by omega)⟩,_,rfl⟩
         by_cases em:m=j
         . subst em;exact h2
         . exact z m (by omega)
     . rintro zs τ G ⟨_,g1,hDG,zl,hz,_⟩
       refine⟨D,zs,rfl,.inl (.of hDG),rfl,key _ _ ⟨_,rfl,g1,?_⟩⟩
       have e1:(decide (V.int (zs.length:Int)=V.int 0)=true)↔zs.length=0:=by
        rw [decide_eq_true_eq]
        constructor
        . intro z
          have:=V.int.inj z
          omega
        . intro z
          rw [z];rfl
       refine e1.trans (hz.trans ⟨fun z=>⟨i,rfl,⟨i2,fun q q2 qi=>?_⟩,by omega⟩,fun ⟨p,ep,hp,_⟩ m hm=>?_⟩)
       . have:=z (q-2).toNat (by omega)
         rwa [show 2+(((q-2).toNat:Nat):Int)=q by omega] at this
       . cases ep
         exact hp.free (2+(m:Int)) (by omega) (by omega)
   rintro _ H4 ⟨bb,rfl,s4,hbb⟩
   have s04:=(s02.trans s3).trans s4
   refine⟨_,rfl,_,rfl,?_⟩
   rcases alt2 with ⟨M,rfl,rfl,hM,hnP⟩|⟨l,rfl,rfl,hl,hP⟩
   . refine ifN (fun z=>hnP (hbb.mp z)) ?_
     refine⟨_,rfl,10,rfl,fun M2 H5 s5 hM2=>⟨blD (N8 10),blD (Nx 10),Nq ((s4.trans s5) _ _ hM),Nq hM2,Nat.le_trans (Ac4 _) (by decide),_,rfl,?_⟩⟩
     rw [show Nx 10=N8 10 from Re 10,Dg]
     refine ifP rfl ?_
     refine⟨_,rfl,rfl,?_⟩
     exact k H5 (s04.trans s5)
   . refine ifP (hbb.mpr hP) ?_
     refine⟨_,rfl,Nat.zero_le _,fun m1 hm1=>?_⟩
     have s5:=Same.new (o:=.lst []) hm1
     have e5:upd H4 m1 (.lst []) m1=some (.lst []):=Ae
     generalize upd H4 m1 (.lst [])=H5 at s5 e5 ⊢
     refine⟨.lst [],.lst [],⟨M0,_,rfl,.of (((s3.trans s4).trans s5) _ _ hM0),rfl⟩,⟨m1,_,rfl,.of e5,rfl⟩,by decide,_,rfl,?_⟩
     rw [Dg]
     refine ifP rfl ?_
     refine⟨_,rfl,Nat.zero_le _,fun m2 hm2=>?_⟩
     have s6:=Same.new (o:=.lst []) hm2
     have e6:upd H5 m2 (.lst []) m2=some (.lst []):=Ae
     generalize upd H5 m2 (.lst [])=H6 at s6 e6 ⊢
     refine⟨.lst [],.lst [],⟨l,_,rfl,.of (((s4.trans s5).trans s6) _ _ hl),rfl⟩,⟨m2,_,rfl,.of e6,rfl⟩,by decide,?_⟩
     rw [Dg]
     exact k H6 ((s04.trans s5).trans s6)
abbrev Ub:Stmt:=top 70
theorem Bp1:FnScope ["_law_script","_law_kind","_law_pieces","_law_growth","_law_piece","_law_pairs","_law_cell","_law_good"] ["_law_script"] (Aj Ub):=⟨rfl,rfl,rfl,by decide +kernel,rfl,by decide +kernel,by decide +kernel⟩
theorem Jw:(["_law_script","_law_kind","_law_pieces","_law_growth","_law_piece","_law_pairs","_law_cell","_law_good"]:List Str).Nodup:=by decide +kernel
theorem Bq8 {f:Addr}{fd:FuncData} (F:Fun K "law" "law" Ub f fd) (T:Txt K mg Al Ap Au Aw Af As Ao At A3 Ax Ag Ad Av A2 Ar Aq Ac) (Si:Has P w K mg base "_law_built" ["_law_kind","_law_cells","_law_most"] 4 (Qf K)) (hc_Growth:HasC P w K mg base Ac ["self","prime"] 4 (sp_Growth__init_Ok K Ac)) (Bz:HasM P w K mg base Ac "pairs" ["self"] 1 (Mp K Ac)) (Ig:Has P w K mg base "_law_cell_at" ["_law_script","_law_k"] 1 (Jm K)) (Sh:Has P w K mg base "_law_prime" ["_law_cell"] 1 (Lw K)) (Ga:HasM P w K mg base Ac "grow" ["self","thing"] 5 (Qn K Ac)) (Gc:Has P w K mg base "_law_paper_told" ["_law_growth","_law_pieces","_law_cell"] 4 (Hm K Ac)) (Fs:Has P w K mg base "_law_growth_made" ["_law_cell"] 6 (Wz K Ac)) (Gd:Has P w K mg base "_law_alive_told" ["_law_growth","_law_pieces","_law_pairs","_law_cell"] 5 (Hn K Ac)):FnOk P w K mg base CX0 7 f fd ["_law_script"] (Ae5 K):=by
 refine F.ok Bp1 (fun vs H Q E h=>?_) (fun Bw A outer s H vs Q E hr h=>?_)
 . obtain⟨a,ns,rfl,hS,hl,k⟩:=h
   rfl
 . obtain⟨a,ns,rfl,hS,hl,k⟩:=h
   have hu8:(A.deeper (PyProof.Rows.envOfC "law" (Aj Ub) s.heap.objs.size f Bw)).units+8<cLine:=by have:=hr.units;omega
   refine⟨_,(Ai (A5 (i:=1) Jw (by rfl) (by first | exact Or.inl rfl | exact Or.inr rfl) (Bf Br (A1 Ig hr (by rfl) (Aa (pv 0) (Aa Ak Ah))) Ak))
    (Ai (A5 (i:=2) Jw (by rfl) (by first | exact Or.inl rfl | exact Or.inr rfl) (A1 Si hr (by rfl) (Aa (Bf C8 (pv 1) Ak) (Aa (E8 (Af6 (K:=K)) (pv 0) (Fm Ak) (Fm Ak)) (Aa (Bx (Bm (K:=K)) (Cj (Aa Ak (Aa Ak (Aa Ak (Aa Ak Ah))))) (Bf Br (pv 1) Ak) (fun _ _=>rfl)) Ah)))))
    (Ai (A5 (i:=3) Jw (by rfl) (by first | exact Or.inl rfl | exact Or.inr rfl) (A89 hc_Growth hr (by rfl) T.m_Growth (Aa (A1 Sh hr (by rfl) (Aa (A1 Ig hr (by rfl) (Aa (pv 0) (Aa Ak Ah))) Ah)) Ah)))
    (Ai (D1 PassesOwn.never rfl (C5 (K:=K) (pv 2)) (Bg (i:=4) Jw (by rfl) (by first | exact Or.inl rfl | exact Or.inr rfl)) (Am (Di (Af1 (pv 3) T.cl_Growth Ga hr (Aa (pv 4) Ah)))))
    (Ai (A5 (i:=5) Jw (by rfl) (by first | exact Or.inl rfl | exact Or.inr rfl) (Mr (pv 3) T.cl_Growth Bz hr))
    (Ai (D1 PassesOwn.never rfl (C5 (K:=K) (Bf (Fp (K:=K)) (E8 (Af6 (K:=K)) (pv 0) (Fm Ak) (Fm Ak)) (Cl (Aa (pv 1) (Aa (Bf Ew (Bf C8 (pv 1) Ak) Ak) Ah))))) (Bg (i:=6) Jw (by rfl) (by first | exact Or.inl rfl | exact Or.inr rfl)) (Ai (A5 (i:=6) Jw (by rfl) (by first | exact Or.inl rfl | exact Or.inr rfl) (Bf Br (Bf op_mulX (Bf Br (pv 6) Ak) Ak) Ak))
    (Ai (A5 (i:=7) Jw (by rfl) (by first | exact Or.inl rfl | exact Or.inr rfl) Js)
    (Ai (Bu (A7 Dk (Bf Br (pv 6) Ak) Ak (A9 _)) (Am (A5 (i:=7) Jw (by rfl) (by first | exact Or.inl rfl | exact Or.inr rfl) (A1 Gc hr (by rfl) (Aa (pv 3) (Aa (pv 2) (Aa (Bf C8 (pv 6) Ak) Ah)))))) (Am (Bu (A7 Dk (Bf Br (pv 6) Ak) Ak (A9 _)) (Am (A5 (i:=7) Jw (by rfl) (by first | exact Or.inl rfl | exact Or.inr rfl) (A1 Fs hr (by rfl) (Aa (Bf C8 (pv 6) Ak) Ah)))) (Am (A5 (i:=7) Jw (by rfl) (by first | exact Or.inl rfl | exact Or.inr rfl) (A1 Gd hr (by rfl) (Aa (pv 3) (Aa (pv 2) (Aa (pv 5) (Aa (Bf C8 (pv 6) Ak) Ah))))))))))
    (Am (Bu (F2 (Dl (pv 7))) (Am (Bb Js)) Be))))))
    (Am (Bb (B8 (Jz (K:=K) hu8) (Mr (pv 3) T.cl_Growth Bz hr) (pv 5) (A9 _)))))))))),?_⟩
   have p4:(0:Int)<4:=by decide
   refine A6 (fun σ' H'=>∃ kind:Int,σ'=[some (.ref a),some (.int kind),none,none,none,none,none,none]/\H=H') ?_ fun key=>?_
   rotate_left
   . exact ⟨_,rfl,a,ns,0,rfl,hS,by decide,hl,_,_,rfl,rfl,(by show (0:Int)<1000003;decide),key _ _ ⟨_,rfl,rfl⟩⟩
   rintro _ _ ⟨kind,rfl,rfl⟩
   have k0:=Int.emod_nonneg kind (show (4:Int)≠0 by decide)
   have k1:=Int.emod_lt_of_pos kind p4
   refine A6 (fun σ' H'=>∃ (Pc:Addr) (us:List V) (xs:List (List Int)),σ'=[some (.ref a),some (.int kind),some (.ref Pc),none,none,none,none,none]/\Same H H'/\H' Pc=some (.lst us)/\Reps K H' us (xs.map tI)/\Fx xs/\xs.length<=40) ?_ fun key=>?_
   rotate_left
   . refine⟨_,rfl,_,_,rfl,rfl,⟨by decide,by decide⟩,_,rfl,_,rfl,_,rfl,a,_,rfl,hS,fun C hC=>?_⟩
     rw [Ag4]
     have s2:=Same.new (o:=.lst ((cutS ns (some 3) (some 40)).map V.int)) hC
     have hC1:(upd H C (.lst ((cutS ns (some 3) (some 40)).map V.int))) C=some (.lst ((cutS ns (some 3) (some 40)).map V.int)):=Ae
     have cl1:=Ag5 ns (some 3) (some 40)
     generalize cutS ns (some 3) (some 40)=ms at s2 hC1 cl1 ⊢
     generalize upd H C (.lst (ms.map V.int))=H2 at s2 hC1 ⊢
     refine⟨Bh (by simp),fun T1 hT1=>?_⟩
     obtain⟨x,hx,x0,x1⟩:∃ x:Int,atI [V.int 8,V.int 16,V.int 24,V.int 16] (kind%4)=some (.int x)/\0<=x/\x<=40:=by
      rcases (show kind%4=0\/kind%4=1\/kind%4=2\/kind%4=3 by omega) with e | e | e | e<;>rw [e]<;>exact ⟨_,rfl,by decide,by decide⟩
     have s3:Same H2 (upd H2 T1 (.tup [.int 8,.int 16,.int 24,.int 16])):=Same.new hT1
     refine⟨_,rfl,_,_,rfl,rfl,p4,T1,_,_,_,rfl,rfl,.of Ae,hx,C,ms,_,x,rfl,.of (s3 _ _ hC1),by omega,x0,x1,fun Pc us xs H' hp s' hp' r' hC hxl=>?_⟩
     exact key _ _ ⟨Pc,us,xs,rfl,(s2.trans s3).trans s',hp',r',hC,by omega⟩
   rintro _ H2 ⟨Pc,us,xs,rfl,s2,hPc,rPc,hsh,hx40⟩
   refine A6 (fun σ' H'=>∃ (g pc sh ed en:Addr) (p:Int),σ'=[some (.ref a),some (.int kind),some (.ref Pc),some (.ref g),none,none,none,none]/\Same H2 H'/\Db K Ac H' g pc sh ed en p [] [] [] []/\∀ c,W4 pc sh ed en c->H2 c=none) ?_ fun key=>?_
   rotate_left
   . refine⟨_,rfl,a,ns,1,rfl,s2.seq hS,by decide,hl,_,rfl,fun p H2' s2' hpr h98=>?_⟩
     intro g dx ng ndx nedx
     have sN:Same H2' (upd (upd H2' dx (.own g)) g (.ins Ac dx [])):=(Same.new ndx).turn ng
     have eg:upd (upd H2' dx (.own g)) g (.ins Ac dx []) g=some (.ins Ac dx []):=Ae
     generalize upd (upd H2' dx (.own g)) g (.ins Ac dx [])=H3 at sN eg ⊢
     have s23:=s2'.trans sN
     refine⟨g,dx,p,rfl,eg,hpr,h98,fun pc sh ed en H4 npc nsh ned nen sx x=>⟨rfl,?_⟩⟩
     refine key _ _ ⟨g,pc,sh,ed,en,p,rfl,fun c o e=>sx c o (A8 (s2' _ _ e) ng) (s23 _ _ e),x,?_⟩
     rintro c (rfl | rfl | rfl | rfl)
     . exact s23.free npc
     . exact s23.free nsh
     . exact s23.free ned
     . exact s23.free nen
   rintro _ H3 ⟨g,pc,sh,ed,en,p,rfl,s3,x3,new3⟩
   have hPc3:=s3 _ _ hPc
   have r3:=Reps.same s3 rPc
   have usl:us.length=xs.length:=by have:=r3.length;simpa using this
   have nPc:¬W4 pc sh ed en Pc:=fun w=>by rw [new3 Pc w] at hPc;cases hPc
   have sa3:SqL K (hidG H3 (W4 pc sh ed en)) a (ns.map V.int):=by
    have:Same H (hidG H3 (W4 pc sh ed en)):=fun c o e=>by
     rw [Ab5 (fun w=>by have e2:=s2 _ _ e;rw [new3 c w] at e2;cases e2)]
     exact (s2.trans s3) _ _ e
    exact this.seq hS
   refine A6 (t:=tFor _ _ _) (fun σ' G=>∃ (o4:Option V) (es ss:List Ms) (bs:Ms),σ'=[some (.ref a),some (.int kind),some (.ref Pc),some (.ref g),o4,none,none,none]/\FrG pc sh ed en H3 G/\Db K Ac G g pc sh ed en p xs es ss bs/\Hi p xs es ss) ?_ fun key=>?_
   rotate_left
   . refine⟨_,rfl,Pc,rfl,⟨_,.of hPc3⟩,?_⟩
     refine for_list (K:=K) (a:=Pc) (xs:=us) (fun i σ' G=>∃ (o4:Option V) (es ss:List Ms) (bs:Ms),σ'=[some (.ref a),some (.int kind),some (.ref Pc),some (.ref g),o4,none,none,none]/\FrG pc sh ed en H3 G/\Db K Ac G g pc sh ed en p (xs.take i) es ss bs/\Hi p (xs.take i) es ss)
      ⟨none,[],[],[],rfl,FrG.of (Same.refl H3),x3,Hi.nil⟩ (fun i σ' G _ ⟨_,_,_,_,_,fr,_⟩=>.of (fr _ _ nPc hPc3)) ?_ ?_
     . rintro i v σ' G hv ⟨o4,es,ss,bs,rfl,fr,x,shx⟩
       have hi:i<xs.length:=by rw [←usl];exact (List.getElem?_eq_some_iff.mp hv).1
       have hxi:xs[i]?=some xs[i]:=List.getElem?_eq_getElem hi
       obtain⟨dv,hdv,rv⟩:=r3.getV hv
       have edv:dv=tI xs[i]:=by
        rw [List.getElem?_map,hxi] at hdv
        exact (Option.some.inj hdv).symm
       subst edv
       have tv:TI K G v xs[i]:=Rep.t (fr.t x3) (A06 _) rv
       have hfit:Fz (xs.take i) (tI xs[i])=true:=Bl6 (hsh i _ hxi)
       have etk:xs.take (i+1)=xs.take i++[xs[i]]:=by rw [List.take_succ,hxi];rfl
       obtain⟨dx,fs,hg,l1,l2,l3,l4,l5,lm⟩:=x.ob
       refine⟨_,rfl,g,dx,fs,rfl,hg,lm.1,_,rfl,g,pc,sh,ed,en,v,p,xs.take i,xs[i],es,ss,bs,rfl,x,tv,hfit,by rw [List.length_take];omega,shx,fun r me ms bs' G1 fr1 x1 sh1 an=>?_⟩
       refine⟨_,es++[me],ss++[ms],bs',rfl,fr.trans fr1,?_,?_⟩
       . rw [etk];exact x1
       . rw [etk];exact sh1
     . rintro σ' G ⟨o4,es,ss,bs,rfl,fr,x,shx⟩
       rw [usl,List.take_length] at x shx
       exact key _ _ ⟨o4,es,ss,bs,rfl,fr,x,shx⟩
   rintro _ H4 ⟨o4,es,ss,bs,rfl,fr4,x4,sh4⟩
   have LP:LT K H4 (.ref Pc) xs:=⟨Pc,us,rfl,.of (fr4 _ _ nPc hPc3),Reps.t (fr4.t x3) (Mx _) r3⟩
   have sa4:SqL K H4 a (ns.map V.int):=A08.seq ((fr4.hid fun c w=>w).seq sa3)
   obtain⟨dx,fs,hg,l1,l2,l3,l4,l5,lm⟩:=x4.ob
   refine A6 (fun σ' H'=>∃ (Pr:Addr),σ'=[some (.ref a),some (.int kind),some (.ref Pc),some (.ref g),o4,some (.ref Pr),none,none]/\Same H4 H'/\Rep K H' (.ref Pr) (.lst (Oz es bs))) ?_ fun key=>?_
   rotate_left
   . exact ⟨_,rfl,g,dx,fs,rfl,hg,lm.2.2.2.2.2.1,g,pc,sh,ed,en,p,xs,es,ss,bs,rfl,x4,fun l vs H' nl s' el rl=>key _ _ ⟨l,rfl,s',⟨l,vs,rfl,.of el,rl⟩⟩⟩
   rintro _ H5 ⟨Pr,rfl,s5,rPr⟩
   refine A6 (t:=tFor _ _ _) (fun σ' G=>∃ (o6 o7:Option V),σ'=[some (.ref a),some (.int kind),some (.ref Pc),some (.ref g),o4,some (.ref Pr),o6,o7]/\Same H5 G) ?_ fun key=>?_
   rotate_left
   . refine⟨_,rfl,_,rfl,_,rfl,a,_,rfl,s5.seq sa4,fun C hC=>?_⟩
     rw [Ag4]
     have s6:=Same.new (o:=.lst ((cutS ns (some 2) (some 62)).map V.int)) hC
     have eC:(upd H5 C (.lst ((cutS ns (some 2) (some 62)).map V.int))) C=some (.lst ((cutS ns (some 2) (some 62)).map V.int)):=Ae
     have cl:=Ag5 ns (some 2) (some 62)
     generalize cutS ns (some 2) (some 62)=ms at s6 eC cl ⊢
     generalize upd H5 C (.lst (ms.map V.int))=H6 at s6 eC ⊢
     refine⟨_,rfl,_,rfl,_,_,rfl,rfl,⟨by decide,by decide⟩,_,_,rfl,rfl,Bh (by simp),fun B hB=>?_⟩
     have s7:=Same.new (o:=.lst [.int kind,.int (kind / 6+5)]) hB
     have eB:upd H6 B (.lst [.int kind,.int (kind / 6+5)]) B=some (.lst [.int kind,.int (kind / 6+5)]):=Ae
     generalize upd H6 B (.lst [.int kind,.int (kind / 6+5)])=H7 at s7 eB ⊢
     refine⟨C,B,_,_,rfl,rfl,.of (s7 _ _ eC),.of eB,Bh (by simp;omega),fun F hF=>?_⟩
     obtain⟨cs,hcs⟩:∃ cs:List Int,ms.map V.int++[V.int kind,V.int (kind / 6+5)]=cs.map V.int:=⟨ms++[kind,kind / 6+5],by simp⟩
     rw [hcs]
     have s8:=Same.new (o:=.lst (cs.map V.int)) hF
     have eF:upd H7 F (.lst (cs.map V.int)) F=some (.lst (cs.map V.int)):=Ae
     generalize upd H7 F (.lst (cs.map V.int))=H8 at s8 eF ⊢
     have s58:=(s6.trans s7).trans s8
     refine⟨F,rfl,⟨_,.of eF⟩,?_⟩
     refine for_list (K:=K) (a:=F) (xs:=cs.map V.int) (fun i σ' G=>∃ (o6 o7:Option V),σ'=[some (.ref a),some (.int kind),some (.ref Pc),some (.ref g),o4,some (.ref Pr),o6,o7]/\Same H8 G)
      ⟨none,none,rfl,Same.refl H8⟩ (fun i σ' G _ ⟨_,_,_,g1⟩=>.of (g1 _ _ eF)) ?_ ?_
     . rintro i y σ' G hy ⟨o6,o7,rfl,g1⟩
       obtain⟨cell,rfl⟩:∃ cell:Int,y=.int cell:=by
        rw [List.getElem?_map] at hy
        cases e:cs[i]? with
        | none=>rw [e] at hy;cases hy
        | some n=>rw [e] at hy;exact ⟨n,(Option.some.inj hy).symm⟩
       have g5:=s5.trans (s58.trans g1)
       have xG:=x4.same g5
       have LPG:=Rep.same g5 LP
       have rPG:=Rep.same (s58.trans g1) rPr
       refine A6 (fun σ2 G2=>∃ cell:Int,σ2=[some (.ref a),some (.int kind),some (.ref Pc),some (.ref g),o4,some (.ref Pr),some (.int cell),o7]/\G=G2) ?_ fun key2=>?_
       rotate_left
       . have q0:=Int.emod_nonneg cell (show (1000003:Int)≠0 by decide)
         have q1:=Int.emod_lt_of_pos cell (show (0:Int)<1000003 by decide)
         exact ⟨_,rfl,_,_,rfl,rfl,(by show (0:Int)<1000003;decide),_,_,rfl,rfl,O1 (by omega) (by omega),_,_,rfl,rfl,(by show (0:Int)<100000007;decide),key2 _ _ ⟨_,rfl,rfl⟩⟩
       rintro _ _ ⟨cell,rfl,rfl⟩
       refine Qc [some (.ref a),some (.int kind),some (.ref Pc),some (.ref g),o4,some (.ref Pr),some (.int cell),some (.bl false)] G (fun _ h=>h) ?_
       refine A6 (t:=tIfS _ _ _) (fun σ2 G2=>σ2=[some (.ref a),some (.int kind),some (.ref Pc),some (.ref g),o4,some (.ref Pr),some (.int cell),some (.bl true)]/\Same G G2) ?_ fun key2=>?_
       rotate_left
       . refine⟨_,rfl,_,_,rfl,rfl,(by show (0:Int)<5;decide),rfl,_,rfl,?_⟩
         refine ite2 (fun _=>?_) (fun _=>?_)
         . exact ⟨_,rfl,_,rfl,_,rfl,_,_,rfl,rfl,⟨by decide,by decide⟩,g,pc,sh,ed,en,Pc,_,p,xs,es,ss,bs,rfl,xG,sh4,LPG,fun H' s'=>key2 _ _ ⟨rfl,s'⟩⟩
         refine⟨_,rfl,_,_,rfl,rfl,(by show (0:Int)<5;decide),rfl,_,rfl,?_⟩
         refine ite2 (fun _=>?_) (fun _=>?_)
         . exact ⟨_,rfl,_,_,rfl,rfl,⟨by decide,by decide⟩,_,rfl,fun H' s'=>key2 _ _ ⟨rfl,s'⟩⟩
         . exact ⟨_,rfl,_,rfl,_,rfl,_,rfl,_,_,rfl,rfl,⟨by decide,by decide⟩,g,pc,sh,ed,en,Pc,Pr,_,p,xs,es,ss,bs,rfl,xG,LPG,rPG,fun H' s'=>key2 _ _ ⟨rfl,s'⟩⟩
       rintro _ G2 ⟨rfl,g2⟩
       refine⟨_,rfl,_,rfl,?_⟩
       refine ifN (by decide) ?_
       exact ⟨_,_,rfl,g1.trans g2⟩
     . rintro σ' G ⟨o6,o7,rfl,g1⟩
       exact key _ _ ⟨o6,o7,rfl,s58.trans g1⟩
   rintro _ H6 ⟨o6,o7,rfl,s6⟩
   have x6:=x4.same (s5.trans s6)
   refine⟨_,rfl,g,dx,fs,rfl,(s5.trans s6) _ _ hg,lm.2.2.2.2.2.1,g,pc,sh,ed,en,p,xs,es,ss,bs,rfl,x6,fun l vs H' nl s' el rl=>?_⟩
   refine⟨_,rfl,.lst (Oz es bs),.lst (Oz es bs),⟨l,vs,rfl,.of el,rl⟩,Rep.same (s6.trans s') rPr,?_,?_⟩
   . have:=Vs bs (C6 es es.length)
     show deps ((C6 es es.length).map (Hv bs))+1<=8
     omega
   . rw [Dg]
     exact k H'
end
end Hb
namespace Hb
open PySem L2
theorem Ps {α:Type}{P:List α->Prop} (h:∀ a0,P [a0]) (us:List α) (hl:us.length=1):P us:=by
 cases us with
 | nil=>exact nomatch hl
 | cons a0 u0 =>
   cases u0 with
   | nil=>exact h a0
   | cons _ _=>simp at hl
theorem Jf {α:Type}{P:List α->Prop} (h:∀ a0 a1,P [a0,a1]) (us:List α) (hl:us.length=2):P us:=by
 cases us with
 | nil=>exact nomatch hl
 | cons a0 u0 =>
   cases u0 with
   | nil=>exact nomatch hl
   | cons a1 u1 =>
     cases u1 with
     | nil=>exact h a0 a1
     | cons _ _=>simp at hl
theorem Pp {α:Type}{P:List α->Prop} (h:∀ a0 a1 a2,P [a0,a1,a2]) (us:List α) (hl:us.length=3):P us:=by
 cases us with
 | nil=>exact nomatch hl
 | cons a0 u0 =>
   cases u0 with
   | nil=>exact nomatch hl
   | cons a1 u1 =>
     cases u1 with
     | nil=>exact nomatch hl
     | cons a2 u2 =>
       cases u2 with
       | nil=>exact h a0 a1 a2
       | cons _ _=>simp at hl
theorem Bt9 {α:Type}{P:List α->Prop} (h:∀ a0 a1 a2 a3,P [a0,a1,a2,a3]) (us:List α) (hl:us.length=4):P us:=by
 cases us with
 | nil=>exact nomatch hl
 | cons a0 u0 =>
   cases u0 with
   | nil=>exact nomatch hl
   | cons a1 u1 =>
     cases u1 with
     | nil=>exact nomatch hl
     | cons a2 u2 =>
       cases u2 with
       | nil=>exact nomatch hl
       | cons a3 u3 =>
         cases u3 with
         | nil=>exact h a0 a1 a2 a3
         | cons _ _=>simp at hl
set_option maxHeartbeats 4000000 in
theorem all_mk {l:PySem.W.OpenLaw}{w:World}{K:W.Frag}{h:Heap}{mg:Str->Option Value}{fa:Addr}{Al:Addr}
 {Ap:Addr}
 {Au:Addr}
 {Aw:Addr}
 {Af:Addr}
 {As:Addr}
 {Ao:Addr}
 {At:Addr}
 {A3:Addr}
 {Ax:Addr}
 {Ag:Addr}
 {Ad:Addr}
 {Av:Addr}
 {A2:Addr}
 {Ar:Addr}
 {Aq:Addr}
 {Ac:Addr}
 {Og:Addr}{y6 Ad8:Option Addr}{p6:Array (Option Value)}{z0 Ab1 Ac6 u8 Td Ad0:Value}
 {E2:Addr}{N2 Os:Option Addr}{Ni:Array (Option Value)}{N5 N9 Oj Nr G7 On:Value}
 {Of:Addr}{y4 Ad7:Option Addr}{o0:Array (Option Value)}{y9 Ab0 Ac5 u7 Tc Ac9:Value}
 {Ij:Addr}{Uo Vi:Option Addr}{T2:Array (Option Value)}{Ut U3 U8 Ud Lh Vd:Value}
 {Yc:Addr}{Aw8 A60:Option Addr}{As6:Array (Option Value)}{Ax4 Az8 A31 Au9 f9 A39:Value}
 {Ac0:Addr}{Ba4 Bc6:Option Addr}{A76:Array (Option Value)}{Ba5 Bb4 Bb9 A84 Ag7 Bc1:Value}
 {J6:Addr}{Xq Yv:Option Addr}{W2:Array (Option Value)}{Xu X4 Yl Xe M5 Yq:Value}
 {Sj:Addr}{Al5 Aq8:Option Addr}{Ai3:Array (Option Value)}{Am2 An7 Ap0 Aj9 V2 Ap7:Value}
 {En:Addr}{Rq Tq:Option Addr}{Qs:Array (Option Value)}{Rx Sd Sy Q9 Kh S7:Value}
 {Ep:Addr}{Rs Ts:Option Addr}{Qu:Array (Option Value)}{Rz Sf S0 Rb Kj S9:Value}
 {Oi:Addr}{y8 Ae0:Option Addr}{p9:Array (Option Value)}{z8 Ab3 Ac8 v4 Tf Ad2:Value}
 {Sk:Addr}{Al6 Aq9:Option Addr}{Ai4:Array (Option Value)}{Am3 An8 Ap1 Ak0 V3 Ap8:Value}
 {Mf:Addr}{Zp j9:Option Addr}{Y9:Array (Option Value)}{Zs Z6 d6 Zi O6 d9:Value}
 {So:Addr}{Am0 Ar3:Option Addr}{Ai8:Array (Option Value)}{Am7 Ao2 Ap5 Ak4 V7 Aq2:Value}
 {Sm:Addr}{Al8 Ar1:Option Addr}{Ai6:Array (Option Value)}{Am5 Ao0 Ap3 Ak2 V5 Aq0:Value}
 {Ye:Addr}{Ax0 A62:Option Addr}{As8:Array (Option Value)}{Ax6 A00 A33 Av1 g7 A41:Value}
 {J9:Addr}{Xt Yy:Option Addr}{W6:Array (Option Value)}{Xx X7 Yo Xh M8 Yt:Value}
 {Me:Addr}{Zo j8:Option Addr}{Y8:Array (Option Value)}{Zr Z5 d5 Zh O5 d8:Value}
 {Sl:Addr}{Al7 Ar0:Option Addr}{Ai5:Array (Option Value)}{Am4 An9 Ap2 Ak1 V4 Ap9:Value}
 {Sn:Addr}{Al9 Ar2:Option Addr}{Ai7:Array (Option Value)}{Am6 Ao1 Ap4 Ak3 V6 Aq1:Value}
 {Yf:Addr}{Ax1 A63:Option Addr}{As9:Array (Option Value)}{Ax7 A01 A34 Av2 g8 A42:Value}
 {J7:Addr}{Xr Yw:Option Addr}{W3:Array (Option Value)}{Xv X5 Ym Xf M6 Yr:Value}
 {E3:Addr}{N3 Ot:Option Addr}{Nj:Array (Option Value)}{N6 Oa Ol Nt G8 Oo:Value}
 {A19:Addr}{Bj2 Bn0:Option Addr}{Bg0:Array (Option Value)}{Bj4 Bk4 Bm1 Bh1 A49 Bm3:Value}
 {Md:Addr}{Zn j7:Option Addr}{Y7:Array (Option Value)}{Zq Z4 d4 Zg O4 d7:Value}
 {Ii:Addr}{Um Vh:Option Addr}{T0:Array (Option Value)}{Us U2 U7 Uc Lg Vc:Value}
 {Yh:Addr}{Ax3 A65:Option Addr}{At1:Array (Option Value)}{Ax9 A03 A36 Av4 i3 A44:Value}
 {Yd:Addr}{Aw9 A61:Option Addr}{As7:Array (Option Value)}{Ax5 Az9 A32 Av0 g6 A40:Value}
 {Ge:Addr}{Rm Tm:Option Addr}{Qo:Array (Option Value)}{Rt R9 Su Q5 Kd S3:Value}
 {Gg:Addr}{Ro To:Option Addr}{Qq:Array (Option Value)}{Rv Sb Sw Q7 Kf S5:Value}
 {Dw:Addr}{K4 K9:Option Addr}{K0:Array (Option Value)}{K5 K6 K7 K2 E6 K8:Value}
 {Ik:Addr}{Up Vj:Option Addr}{T3:Array (Option Value)}{Uu U4 U9 Ue Li Ve:Value}
 {Oh:Addr}{y7 Ad9:Option Addr}{p7:Array (Option Value)}{z7 Ab2 Ac7 u9 Te Ad1:Value}
 {Dt:Addr}{N4 Ou:Option Addr}{Nk:Array (Option Value)}{N7 Ob Om Nu G9 Op:Value}
 {Eo:Addr}{Rr Tr:Option Addr}{Qt:Array (Option Value)}{Ry Se Sz Ra Ki S8:Value}
 {Yg:Addr}{Ax2 A64:Option Addr}{At0:Array (Option Value)}{Ax8 A02 A35 Av3 g9 A43:Value}
 {J8:Addr}{Xs Yx:Option Addr}{W5:Array (Option Value)}{Xw X6 Yn Xg M7 Ys:Value}
 {Il:Addr}{Uq Vk:Option Addr}{T4:Array (Option Value)}{Uv U5 Va Uf Lj Vf:Value}
 {A20:Addr}{Bj3 Bn1:Option Addr}{Bg2:Array (Option Value)}{Bj5 Bk5 Bm2 Bh2 A51 Bm4:Value}
 {Da:Addr}{Iv Jb:Option Addr}{Ir:Array (Option Value)}{Iw Ix Iy Iu E5 Iz:Value}
 {E4:Addr}{Ip:Nat}{Gj:Array (Option Value)}{Gk:Option Addr}{tk_Growth__init__0:Tok}
 {Dr:Addr}{Ju Km:Option Addr}{Jp:Array (Option Value)}{Jv J1 Kb Jq Fv Kc:Value}
 {Fu:Addr}{Jg:Nat}{Io:Array (Option Value)}{Iq:Option Addr}
 {Sq:Addr}{Am1 Ar4:Option Addr}{Ai9:Array (Option Value)}{Am8 Ao3 Ap6 Ak5 V8 Aq3:Value}
 {Gf:Addr}{Rn Tn:Option Addr}{Qp:Array (Option Value)}{Ru Sa Sv Q6 Ke S4:Value}
 {Fa:Addr}{Ur Vl:Option Addr}{T5:Array (Option Value)}{Uw U6 Vb Ug Lk Vg:Value}
 {Gh:Addr}{Rp Tp:Option Addr}{Qr:Array (Option Value)}{Rw Sc Sx Q8 Kg S6:Value}
 {Ft:Addr}{Pm Pz:Option Addr}{Pg:Array (Option Value)}{Pn Po Pu Pj Ja Pw:Value}
 {Bl8:Addr}{Bq9 Bf0:Option Addr}{Bp0:Array (Option Value)}{Br0 Be2 Be5 Bd1 A50 Be6:Value}
 {t_MOST_PIECES:Tok}
 {t_PRIME_BOUND:Tok}
 {t_LEVELS:Tok}
 {fc_FACE_COUNTS:Addr}{nc_FACE_COUNTS:Nat}{slc_FACE_COUNTS:Array (Option Value)}{tc_FACE_COUNTS_0 tc_FACE_COUNTS_1 tc_FACE_COUNTS_2 tc_FACE_COUNTS_3:Tok}
 (X:K.In h) (G:h.Ns mainGlobals mg) (hfa:mg "law"=some (.ref fa))
 (ac_HoleError:PySem.W.nsIn K mainGlobals "HoleError"=some (some (.ref Al)))
 (ac_NoShape:PySem.W.nsIn K mainGlobals "NoShape"=some (some (.ref Ap)))
 (ac_NoText:PySem.W.nsIn K mainGlobals "NoText"=some (some (.ref Au)))
 (ac_NoName:PySem.W.nsIn K mainGlobals "NoName"=some (some (.ref Aw)))
 (ac_NoLevel:PySem.W.nsIn K mainGlobals "NoLevel"=some (some (.ref Af)))
 (ac_NoChain:PySem.W.nsIn K mainGlobals "NoChain"=some (some (.ref As)))
 (ac_NoTable:PySem.W.nsIn K mainGlobals "NoTable"=some (some (.ref Ao)))
 (ac_NoTurn:PySem.W.nsIn K mainGlobals "NoTurn"=some (some (.ref At)))
 (ac_NoMap:PySem.W.nsIn K mainGlobals "NoMap"=some (some (.ref A3)))
 (ac_NoGlue:PySem.W.nsIn K mainGlobals "NoGlue"=some (some (.ref Ax)))
 (ac_NoPrime:PySem.W.nsIn K mainGlobals "NoPrime"=some (some (.ref Ag)))
 (ac_NoStage:PySem.W.nsIn K mainGlobals "NoStage"=some (some (.ref Ad)))
 (ac_NoPair:PySem.W.nsIn K mainGlobals "NoPair"=some (some (.ref Av)))
 (ac_NoRow:PySem.W.nsIn K mainGlobals "NoRow"=some (some (.ref A2)))
 (ac_NoPiece:PySem.W.nsIn K mainGlobals "NoPiece"=some (some (.ref Ar)))
 (ac_NoRound:PySem.W.nsIn K mainGlobals "NoRound"=some (some (.ref Aq)))
 (ac_Growth:PySem.W.nsIn K mainGlobals "Growth"=some (some (.ref Ac)))
 (zq3p:PySem.W.nsIn K mainGlobals "is_whole"=some (some (.ref Og)))
 (zq3h:K.lookup Og=some ⟨z0,y6,.func (PySem.W.fnOf "is_whole" "is_whole" (Bd Fe) (Ba Fe) (Aj Fe) .none Ab1 Ac6 u8 Ad8 Td Ad0),p6⟩)
 (zq3l:PySem.W.codeIn K Td "is_whole"=true)
 (zq2x:PySem.W.keepIn K (.ref Og)=true)
 (zq0r:PySem.W.nsIn K mainGlobals "shared_divisor"=some (some (.ref E2)))
 (zq0k:K.lookup E2=some ⟨N5,N2,.func (PySem.W.fnOf "shared_divisor" "shared_divisor" (Bd B9) (Ba B9) (Aj B9) .none N9 Oj Nr Os G7 On),Ni⟩)
 (zq0o:PySem.W.codeIn K G7 "shared_divisor"=true)
 (zq02:PySem.W.keepIn K (.ref E2)=true)
 (zq3o:PySem.W.nsIn K mainGlobals "level_of"=some (some (.ref Of)))
 (zq3g:K.lookup Of=some ⟨y9,y4,.func (PySem.W.fnOf "level_of" "level_of" (Bd Fd) (Ba Fd) (Aj Fd) .none Ab0 Ac5 u7 Ad7 Tc Ac9),o0⟩)
 (zq3k:PySem.W.codeIn K Tc "level_of"=true)
 (zq2w:PySem.W.keepIn K (.ref Of)=true)
 (zq2g:PySem.W.nsIn K mainGlobals "faces_agree"=some (some (.ref Ij)))
 (zq23:K.lookup Ij=some ⟨Ut,Uo,.func (PySem.W.fnOf "faces_agree" "faces_agree" (Bd Dd) (Ba Dd) (Aj Dd) .none U3 U8 Ud Vi Lh Vd),T2⟩)
 (zq2b:PySem.W.codeIn K Lh "faces_agree"=true)
 (zq0v:PySem.W.keepIn K (.ref Ij)=true)
 (zq4w:PySem.W.nsIn K mainGlobals "add_at"=some (some (.ref Yc)))
 (zq4j:K.lookup Yc=some ⟨Ax4,Aw8,.func (PySem.W.fnOf "add_at" "add_at" (Bd Ho) (Ba Ho) (Aj Ho) .none Az8 A31 Au9 A60 f9 A39),As6⟩)
 (zq4q:PySem.W.codeIn K f9 "add_at"=true)
 (zq3s:PySem.W.keepIn K (.ref Yc)=true)
 (zq54:PySem.W.nsIn K mainGlobals "times"=some (some (.ref Ac0)))
 (zq52:K.lookup Ac0=some ⟨Ba5,Ba4,.func (PySem.W.fnOf "times" "times" (Bd Np) (Ba Np) (Aj Np) .none Bb4 Bb9 A84 Bc6 Ag7 Bc1),A76⟩)
 (zq53:PySem.W.codeIn K Ag7 "times"=true)
 (zq4p:PySem.W.keepIn K (.ref Ac0)=true)
 (zq2s:PySem.W.nsIn K mainGlobals "check_size"=some (some (.ref J6)))
 (zq2k:K.lookup J6=some ⟨Xu,Xq,.func (PySem.W.fnOf "check_size" "check_size" (Bd Dy) (Ba Dy) (Aj Dy) .none X4 Yl Xe Yv M5 Yq),W2⟩)
 (zq2o:PySem.W.codeIn K M5 "check_size"=true)
 (zq1a:PySem.W.keepIn K (.ref J6)=true)
 (zq4c:PySem.W.nsIn K mainGlobals "counted"=some (some (.ref Sj)))
 (zq3y:K.lookup Sj=some ⟨Am2,Al5,.func (PySem.W.fnOf "counted" "counted" (Bd Gn) (Ba Gn) (Aj Gn) .none An7 Ap0 Aj9 Aq8 V2 Ap7),Ai3⟩)
 (zq45:PySem.W.codeIn K V2 "counted"=true)
 (zq39:PySem.W.keepIn K (.ref Sj)=true)
 (zq1z:PySem.W.findIn K (.ref Ac) "shape"=some (some (.ref En)))
 (zq13:PySem.W.isFn K (.ref En)=true)
 (zq1i:K.lookup En=some ⟨Rx,Rq,.func (PySem.W.fnOf "shape" "Growth.shape" (Bd Cw) (Ba Cw) (Aj Cw) .none Sd Sy Q9 Tq Kh S7),Qs⟩)
 (zq1r:PySem.W.codeIn K Kh "Growth.shape"=true)
 (zq0f:PySem.W.keepIn K (.ref En)=true)
 (zq21:PySem.W.findIn K (.ref Ac) "pairs"=some (some (.ref Ep)))
 (zq15:PySem.W.isFn K (.ref Ep)=true)
 (zq1k:K.lookup Ep=some ⟨Rz,Rs,.func (PySem.W.fnOf "pairs" "Growth.pairs" (Bd Cg) (Ba Cg) (Aj Cg) .none Sf S0 Rb Ts Kj S9),Qu⟩)
 (zq1t:PySem.W.codeIn K Kj "Growth.pairs"=true)
 (zq0h:PySem.W.keepIn K (.ref Ep)=true)
 (zq3r:PySem.W.nsIn K mainGlobals "is_alive"=some (some (.ref Oi)))
 (zq3j:K.lookup Oi=some ⟨z8,y8,.func (PySem.W.fnOf "is_alive" "is_alive" (Bd Fg) (Ba Fg) (Aj Fg) .none Ab3 Ac8 v4 Ae0 Tf Ad2),p9⟩)
 (zq3n:PySem.W.codeIn K Tf "is_alive"=true)
 (zq2z:PySem.W.keepIn K (.ref Oi)=true)
 (zq4d:PySem.W.nsIn K mainGlobals "_law_whole"=some (some (.ref Sk)))
 (zq3z:K.lookup Sk=some ⟨Am3,Al6,.func (PySem.W.fnOf "_law_whole" "_law_whole" (Bd Go) (Ba Go) (Aj Go) .none An8 Ap1 Ak0 Aq9 V3 Ap8),Ai4⟩)
 (zq46:PySem.W.codeIn K V3 "_law_whole"=true)
 (zq3a:PySem.W.keepIn K (.ref Sk)=true)
 (zq38:PySem.W.nsIn K mainGlobals "_law_cell_at"=some (some (.ref Mf)))
 (zq32:K.lookup Mf=some ⟨Zs,Zp,.func (PySem.W.fnOf "_law_cell_at" "_law_cell_at" (Bd Ec) (Ba Ec) (Aj Ec) .none Z6 d6 Zi j9 O6 d9),Y9⟩)
 (zq35:PySem.W.codeIn K O6 "_law_cell_at"=true)
 (zq29:PySem.W.keepIn K (.ref Mf)=true)
 (zq4h:PySem.W.nsIn K mainGlobals "_law_level"=some (some (.ref So)))
 (zq43:K.lookup So=some ⟨Am7,Am0,.func (PySem.W.fnOf "_law_level" "_law_level" (Bd Gs) (Ba Gs) (Aj Gs) .none Ao2 Ap5 Ak4 Ar3 V7 Aq2),Ai8⟩)
 (zq4a:PySem.W.codeIn K V7 "_law_level"=true)
 (zq3e:PySem.W.keepIn K (.ref So)=true)
 (zq4f:PySem.W.nsIn K mainGlobals "_law_meets"=some (some (.ref Sm)))
 (zq41:K.lookup Sm=some ⟨Am5,Al8,.func (PySem.W.fnOf "_law_meets" "_law_meets" (Bd Gq) (Ba Gq) (Aj Gq) .none Ao0 Ap3 Ak2 Ar1 V5 Aq0),Ai6⟩)
 (zq48:PySem.W.codeIn K V5 "_law_meets"=true)
 (zq3c:PySem.W.keepIn K (.ref Sm)=true)
 (zq4y:PySem.W.nsIn K mainGlobals "_law_pick"=some (some (.ref Ye)))
 (zq4l:K.lookup Ye=some ⟨Ax6,Ax0,.func (PySem.W.fnOf "_law_pick" "_law_pick" (Bd Kr) (Ba Kr) (Aj Kr) .none A00 A33 Av1 A62 g7 A41),As8⟩)
 (zq4s:PySem.W.codeIn K g7 "_law_pick"=true)
 (zq3u:PySem.W.keepIn K (.ref Ye)=true)
 (zq2v:PySem.W.nsIn K mainGlobals "_law_faces_by"=some (some (.ref J9)))
 (zq2n:K.lookup J9=some ⟨Xx,Xt,.func (PySem.W.fnOf "_law_faces_by" "_law_faces_by" (Bd D0) (Ba D0) (Aj D0) .none X7 Yo Xh Yy M8 Yt),W6⟩)
 (zq2r:PySem.W.codeIn K M8 "_law_faces_by"=true)
 (zq1d:PySem.W.keepIn K (.ref J9)=true)
 (zq37:PySem.W.nsIn K mainGlobals "_law_word_by"=some (some (.ref Me)))
 (zq31:K.lookup Me=some ⟨Zr,Zo,.func (PySem.W.fnOf "_law_word_by" "_law_word_by" (Bd Eb) (Ba Eb) (Aj Eb) .none Z5 d5 Zh j8 O5 d8),Y8⟩)
 (zq34:PySem.W.codeIn K O5 "_law_word_by"=true)
 (zq28:PySem.W.keepIn K (.ref Me)=true)
 (zq4e:PySem.W.nsIn K mainGlobals "_law_prime"=some (some (.ref Sl)))
 (zq40:K.lookup Sl=some ⟨Am4,Al7,.func (PySem.W.fnOf "_law_prime" "_law_prime" (Bd Gp) (Ba Gp) (Aj Gp) .none An9 Ap2 Ak1 Ar0 V4 Ap9),Ai5⟩)
 (zq47:PySem.W.codeIn K V4 "_law_prime"=true)
 (zq3b:PySem.W.keepIn K (.ref Sl)=true)
 (zq4g:PySem.W.nsIn K mainGlobals "_law_marks"=some (some (.ref Sn)))
 (zq42:K.lookup Sn=some ⟨Am6,Al9,.func (PySem.W.fnOf "_law_marks" "_law_marks" (Bd Gr) (Ba Gr) (Aj Gr) .none Ao1 Ap4 Ak3 Ar2 V6 Aq1),Ai7⟩)
 (zq49:PySem.W.codeIn K V6 "_law_marks"=true)
 (zq3d:PySem.W.keepIn K (.ref Sn)=true)
 (zq4z:PySem.W.nsIn K mainGlobals "_law_only"=some (some (.ref Yf)))
 (zq4m:K.lookup Yf=some ⟨Ax7,Ax1,.func (PySem.W.fnOf "_law_only" "_law_only" (Bd Hq) (Ba Hq) (Aj Hq) .none A01 A34 Av2 A63 g8 A42),As9⟩)
 (zq4t:PySem.W.codeIn K g8 "_law_only"=true)
 (zq3v:PySem.W.keepIn K (.ref Yf)=true)
 (zq2t:PySem.W.nsIn K mainGlobals "_law_thing_by"=some (some (.ref J7)))
 (zq2l:K.lookup J7=some ⟨Xv,Xr,.func (PySem.W.fnOf "_law_thing_by" "_law_thing_by" (Bd Dz) (Ba Dz) (Aj Dz) .none X5 Ym Xf Yw M6 Yr),W3⟩)
 (zq2p:PySem.W.codeIn K M6 "_law_thing_by"=true)
 (zq1b:PySem.W.keepIn K (.ref J7)=true)
 (zq0s:PySem.W.nsIn K mainGlobals "is_whole_below"=some (some (.ref E3)))
 (zq0l:K.lookup E3=some ⟨N6,N3,.func (PySem.W.fnOf "is_whole_below" "is_whole_below" (Bd Ca) (Ba Ca) (Aj Ca) .none Oa Ol Nt Ot G8 Oo),Nj⟩)
 (zq0p:PySem.W.codeIn K G8 "is_whole_below"=true)
 (zq03:PySem.W.keepIn K (.ref E3)=true)
 (zq5b:PySem.W.nsIn K mainGlobals "plus"=some (some (.ref A19)))
 (zq57:K.lookup A19=some ⟨Bj4,Bj2,.func (PySem.W.fnOf "plus" "plus" (Bd Vq) (Ba Vq) (Aj Vq) .none Bk4 Bm1 Bh1 Bn0 A49 Bm3),Bg0⟩)
 (zq59:PySem.W.codeIn K A49 "plus"=true)
 (zq55:PySem.W.keepIn K (.ref A19)=true)
 (zq36:PySem.W.nsIn K mainGlobals "add_faces"=some (some (.ref Md)))
 (zq30:K.lookup Md=some ⟨Zq,Zn,.func (PySem.W.fnOf "add_faces" "add_faces" (Bd Ea) (Ba Ea) (Aj Ea) .none Z4 d4 Zg j7 O4 d7),Y7⟩)
 (zq33:PySem.W.codeIn K O4 "add_faces"=true)
 (zq27:PySem.W.keepIn K (.ref Md)=true)
 (zq2f:PySem.W.nsIn K mainGlobals "turned_over"=some (some (.ref Ii)))
 (zq22:K.lookup Ii=some ⟨Us,Um,.func (PySem.W.fnOf "turned_over" "turned_over" (Bd Dc) (Ba Dc) (Aj Dc) .none U2 U7 Uc Vh Lg Vc),T0⟩)
 (zq2a:PySem.W.codeIn K Lg "turned_over"=true)
 (zq0u:PySem.W.keepIn K (.ref Ii)=true)
 (zq51:PySem.W.nsIn K mainGlobals "_law_fits"=some (some (.ref Yh)))
 (zq4o:K.lookup Yh=some ⟨Ax9,Ax3,.func (PySem.W.fnOf "_law_fits" "_law_fits" (Bd Hr) (Ba Hr) (Aj Hr) .none A03 A36 Av4 A65 i3 A44),At1⟩)
 (zq4v:PySem.W.codeIn K i3 "_law_fits"=true)
 (zq3x:PySem.W.keepIn K (.ref Yh)=true)
 (zq4x:PySem.W.nsIn K mainGlobals "_law_side"=some (some (.ref Yd)))
 (zq4k:K.lookup Yd=some ⟨Ax5,Aw9,.func (PySem.W.fnOf "_law_side" "_law_side" (Bd Kq) (Ba Kq) (Aj Kq) .none Az9 A32 Av0 A61 g6 A40),As7⟩)
 (zq4r:PySem.W.codeIn K g6 "_law_side"=true)
 (zq3t:PySem.W.keepIn K (.ref Yd)=true)
 (zq1v:PySem.W.nsIn K mainGlobals "_law_words_with"=some (some (.ref Ge)))
 (zq1e:K.lookup Ge=some ⟨Rt,Rm,.func (PySem.W.fnOf "_law_words_with" "_law_words_with" (Bd Cd) (Ba Cd) (Aj Cd) .none R9 Su Q5 Tm Kd S3),Qo⟩)
 (zq1n:PySem.W.codeIn K Kd "_law_words_with"=true)
 (zq0b:PySem.W.keepIn K (.ref Ge)=true)
 (zq1x:PySem.W.nsIn K mainGlobals "_law_is_from_to"=some (some (.ref Gg)))
 (zq1g:K.lookup Gg=some ⟨Rv,Ro,.func (PySem.W.fnOf "_law_is_from_to" "_law_is_from_to" (Bd Cv) (Ba Cv) (Aj Cv) .none Sb Sw Q7 To Kf S5),Qq⟩)
 (zq1p:PySem.W.codeIn K Kf "_law_is_from_to"=true)
 (zq0d:PySem.W.keepIn K (.ref Gg)=true)
 (zq07:PySem.W.nsIn K mainGlobals "is_place_of_level"=some (some (.ref Dw)))
 (zq05:K.lookup Dw=some ⟨K5,K4,.func (PySem.W.fnOf "is_place_of_level" "is_place_of_level" (Bd Bv) (Ba Bv) (Aj Bv) .none K6 K7 K2 K9 E6 K8),K0⟩)
 (zq06:PySem.W.codeIn K E6 "is_place_of_level"=true)
 (zq00:PySem.W.keepIn K (.ref Dw)=true)
 (zq2h:PySem.W.nsIn K mainGlobals "check_level"=some (some (.ref Ik)))
 (zq24:K.lookup Ik=some ⟨Uu,Up,.func (PySem.W.fnOf "check_level" "check_level" (Bd De) (Ba De) (Aj De) .none U4 U9 Ue Vj Li Ve),T3⟩)
 (zq2c:PySem.W.codeIn K Li "check_level"=true)
 (zq0w:PySem.W.keepIn K (.ref Ik)=true)
 (zq3q:PySem.W.nsIn K mainGlobals "is_prime"=some (some (.ref Oh)))
 (zq3i:K.lookup Oh=some ⟨z7,y7,.func (PySem.W.fnOf "is_prime" "is_prime" (Bd Ff) (Ba Ff) (Aj Ff) .none Ab2 Ac7 u9 Ad9 Te Ad1),p7⟩)
 (zq3m:PySem.W.codeIn K Te "is_prime"=true)
 (zq2y:PySem.W.keepIn K (.ref Oh)=true)
 (zq0t:PySem.W.findIn K (.ref Ac) "settled"=some (some (.ref Dt)))
 (zq0a:PySem.W.isFn K (.ref Dt)=true)
 (zq0m:K.lookup Dt=some ⟨N7,N4,.func (PySem.W.fnOf "settled" "Growth.settled" (Bd B1) (Ba B1) (Aj B1) .none Ob Om Nu Ou G9 Op),Nk⟩)
 (zq0q:PySem.W.codeIn K G9 "Growth.settled"=true)
 (zq04:PySem.W.keepIn K (.ref Dt)=true)
 (zq20:PySem.W.findIn K (.ref Ac) "paper"=some (some (.ref Eo)))
 (zq14:PySem.W.isFn K (.ref Eo)=true)
 (zq1j:K.lookup Eo=some ⟨Ry,Rr,.func (PySem.W.fnOf "paper" "Growth.paper" (Bd Cy) (Ba Cy) (Aj Cy) .none Se Sz Ra Tr Ki S8),Qt⟩)
 (zq1s:PySem.W.codeIn K Ki "Growth.paper"=true)
 (zq0g:PySem.W.keepIn K (.ref Eo)=true)
 (zq50:PySem.W.nsIn K mainGlobals "_law_next"=some (some (.ref Yg)))
 (zq4n:K.lookup Yg=some ⟨Ax8,Ax2,.func (PySem.W.fnOf "_law_next" "_law_next" (Bd Ks) (Ba Ks) (Aj Ks) .none A02 A35 Av3 A64 g9 A43),At0⟩)
 (zq4u:PySem.W.codeIn K g9 "_law_next"=true)
 (zq3w:PySem.W.keepIn K (.ref Yg)=true)
 (zq2u:PySem.W.nsIn K mainGlobals "_law_shape_by"=some (some (.ref J8)))
 (zq2m:K.lookup J8=some ⟨Xw,Xs,.func (PySem.W.fnOf "_law_shape_by" "_law_shape_by" (Bd C7) (Ba C7) (Aj C7) .none X6 Yn Xg Yx M7 Ys),W5⟩)
 (zq2q:PySem.W.codeIn K M7 "_law_shape_by"=true)
 (zq1c:PySem.W.keepIn K (.ref J8)=true)
 (zq2i:PySem.W.nsIn K mainGlobals "_law_due_alive"=some (some (.ref Il)))
 (zq25:K.lookup Il=some ⟨Uv,Uq,.func (PySem.W.fnOf "_law_due_alive" "_law_due_alive" (Bd Df) (Ba Df) (Aj Df) .none U5 Va Uf Vk Lj Vf),T4⟩)
 (zq2d:PySem.W.codeIn K Lj "_law_due_alive"=true)
 (zq0x:PySem.W.keepIn K (.ref Il)=true)
 (zq5c:PySem.W.nsIn K mainGlobals "fits"=some (some (.ref A20)))
 (zq58:K.lookup A20=some ⟨Bj5,Bj3,.func (PySem.W.fnOf "fits" "fits" (Bd Q3) (Ba Q3) (Aj Q3) .none Bk5 Bm2 Bh2 Bn1 A51 Bm4),Bg2⟩)
 (zq5a:PySem.W.codeIn K A51 "fits"=true)
 (zq56:PySem.W.keepIn K (.ref A20)=true)
 (zq19:PySem.W.findIn K (.ref Ac) "__init__"=some (some (.ref Da)))
 (zq0n:PySem.W.isFn K (.ref Da)=true)
 (zq11:K.lookup Da=some ⟨Iw,Iv,.func (PySem.W.fnOf "__init__" "Growth.__init__" (Bd Ck) (Ba Ck) (Aj Ck) (.ref E4) Ix Iy Iu Jb E5 Iz),Ir⟩)
 (zq0j:K.lookup E4=some ⟨.type "tuple",Gk,.seq #[.int 2 tk_Growth__init__0] Ip,Gj⟩)
 (zq17:PySem.W.codeIn K E5 "Growth.__init__"=true)
 (zq12:PySem.W.keepIn K (.ref Da)=true)
 (zq0i:PySem.W.findIn K (.ref Ac) "alive"=some (some (.ref Dr)))
 (zq09:PySem.W.isFn K (.ref Dr)=true)
 (zq1l:K.lookup Dr=some ⟨Jv,Ju,.func (PySem.W.fnOf "alive" "Growth.alive" (Bd Cz) (Ba Cz) (Aj Cz) (.ref Fu) J1 Kb Jq Km Fv Kc),Jp⟩)
 (zq0z:K.lookup Fu=some ⟨.type "tuple",Iq,.seq #[.none] Jg,Io⟩)
 (zq1u:PySem.W.codeIn K Fv "Growth.alive"=true)
 (zq01:PySem.W.keepIn K (.ref Dr)=true)
 (zq4i:PySem.W.nsIn K mainGlobals "_law_built"=some (some (.ref Sq)))
 (zq44:K.lookup Sq=some ⟨Am8,Am1,.func (PySem.W.fnOf "_law_built" "_law_built" (Bd Gu) (Ba Gu) (Aj Gu) .none Ao3 Ap6 Ak5 Ar4 V8 Aq3),Ai9⟩)
 (zq4b:PySem.W.codeIn K V8 "_law_built"=true)
 (zq3f:PySem.W.keepIn K (.ref Sq)=true)
 (zq1w:PySem.W.nsIn K mainGlobals "_law_paper_told"=some (some (.ref Gf)))
 (zq1f:K.lookup Gf=some ⟨Ru,Rn,.func (PySem.W.fnOf "_law_paper_told" "_law_paper_told" (Bd Ce) (Ba Ce) (Aj Ce) .none Sa Sv Q6 Tn Ke S4),Qp⟩)
 (zq1o:PySem.W.codeIn K Ke "_law_paper_told"=true)
 (zq0c:PySem.W.keepIn K (.ref Gf)=true)
 (zq2j:PySem.W.findIn K (.ref Ac) "grow"=some (some (.ref Fa)))
 (zq1m:PySem.W.isFn K (.ref Fa)=true)
 (zq26:K.lookup Fa=some ⟨Uw,Ur,.func (PySem.W.fnOf "grow" "Growth.grow" (Bd Cp) (Ba Cp) (Aj Cp) .none U6 Vb Ug Vl Lk Vg),T5⟩)
 (zq2e:PySem.W.codeIn K Lk "Growth.grow"=true)
 (zq0y:PySem.W.keepIn K (.ref Fa)=true)
 (zq1y:PySem.W.nsIn K mainGlobals "_law_alive_told"=some (some (.ref Gh)))
 (zq1h:K.lookup Gh=some ⟨Rw,Rp,.func (PySem.W.fnOf "_law_alive_told" "_law_alive_told" (Bd Cf) (Ba Cf) (Aj Cf) .none Sc Sx Q8 Tp Kg S6),Qr⟩)
 (zq1q:PySem.W.codeIn K Kg "_law_alive_told"=true)
 (zq0e:PySem.W.keepIn K (.ref Gh)=true)
 (zq18:PySem.W.nsIn K mainGlobals "_law_growth_made"=some (some (.ref Ft)))
 (zq10:K.lookup Ft=some ⟨Pn,Pm,.func (PySem.W.fnOf "_law_growth_made" "_law_growth_made" (Bd B5) (Ba B5) (Aj B5) .none Po Pu Pj Pz Ja Pw),Pg⟩)
 (zq16:PySem.W.codeIn K Ja "_law_growth_made"=true)
 (zq08:PySem.W.keepIn K (.ref Ft)=true)
 (zq5g:PySem.W.nsIn K mainGlobals "law"=some (some (.ref Bl8)))
 (zq5d:K.lookup Bl8=some ⟨Br0,Bq9,.func (PySem.W.fnOf "law" "law" (Bd Ub) (Ba Ub) (Aj Ub) .none Be2 Be5 Bd1 Bf0 A50 Be6),Bp0⟩)
 (zq5f:PySem.W.codeIn K A50 "law"=true)
 (zq5e:PySem.W.keepIn K (.ref Bl8)=true)
 (mk_Growth:PySem.W.makesIn K Ac=true)
 (kc_Growth:PySem.W.keepIn K (.ref Ac)=true)
 (ak_HoleError:PySem.W.ktsIn K Al "BaseException"=true)
 (ae_NoLevel:PySem.W.excIn K Af bmV "ValueError.__new__"=true)
 (ak_NoLevel:PySem.W.ktsIn K Af "BaseException"=true)
 (a1_NoLevel:PySem.W.findIn K (.ref Af) "__getattribute__"=some (some (.builtin "BaseException.__getattribute__")))
 (a2_NoLevel:PySem.W.findIn K (.ref Af) "__getattr__"=some none)
 (a3_NoLevel:PySem.W.findIn K (.ref Af) "__class__"=some (some (.builtin "object.__class__")))
 (a4_NoLevel:PySem.W.subIn K (.ref Af) (.type "object")=some true)
 (a5_NoLevel:PySem.W.subIn K (.ref Af) (.type "BaseException")=some true)
 (av_NoLevel:PySem.W.kitOne K (.ref Af) (.type "ValueError")=some true)
 (ae_NoPrime:PySem.W.excIn K Ag bmV "ValueError.__new__"=true)
 (ak_NoPrime:PySem.W.ktsIn K Ag "BaseException"=true)
 (a1_NoPrime:PySem.W.findIn K (.ref Ag) "__getattribute__"=some (some (.builtin "BaseException.__getattribute__")))
 (a2_NoPrime:PySem.W.findIn K (.ref Ag) "__getattr__"=some none)
 (a3_NoPrime:PySem.W.findIn K (.ref Ag) "__class__"=some (some (.builtin "object.__class__")))
 (a4_NoPrime:PySem.W.subIn K (.ref Ag) (.type "object")=some true)
 (a5_NoPrime:PySem.W.subIn K (.ref Ag) (.type "BaseException")=some true)
 (av_NoPrime:PySem.W.kitOne K (.ref Ag) (.type "ValueError")=some true)
 (ae_NoStage:PySem.W.excIn K Ad bmV "ValueError.__new__"=true)
 (ak_NoStage:PySem.W.ktsIn K Ad "BaseException"=true)
 (a1_NoStage:PySem.W.findIn K (.ref Ad) "__getattribute__"=some (some (.builtin "BaseException.__getattribute__")))
 (a2_NoStage:PySem.W.findIn K (.ref Ad) "__getattr__"=some none)
 (a3_NoStage:PySem.W.findIn K (.ref Ad) "__class__"=some (some (.builtin "object.__class__")))
 (a4_NoStage:PySem.W.subIn K (.ref Ad) (.type "object")=some true)
 (a5_NoStage:PySem.W.subIn K (.ref Ad) (.type "BaseException")=some true)
 (av_NoStage:PySem.W.kitOne K (.ref Ad) (.type "ValueError")=some true)
 (as_NoLevel_HoleError:PySem.W.subIn K (.ref Af) (.ref Al)=some true)
 (ai_NoLevel_NoShape:PySem.W.kitOne K (.ref Af) (.ref Ap)=some false)
 (ai_NoLevel_NoText:PySem.W.kitOne K (.ref Af) (.ref Au)=some false)
 (ai_NoLevel_NoName:PySem.W.kitOne K (.ref Af) (.ref Aw)=some false)
 (ai_NoLevel_NoLevel:PySem.W.kitOne K (.ref Af) (.ref Af)=some true)
 (ai_NoLevel_NoChain:PySem.W.kitOne K (.ref Af) (.ref As)=some false)
 (ai_NoLevel_NoTable:PySem.W.kitOne K (.ref Af) (.ref Ao)=some false)
 (ai_NoLevel_NoTurn:PySem.W.kitOne K (.ref Af) (.ref At)=some false)
 (ai_NoLevel_NoMap:PySem.W.kitOne K (.ref Af) (.ref A3)=some false)
 (ai_NoLevel_NoGlue:PySem.W.kitOne K (.ref Af) (.ref Ax)=some false)
 (ai_NoLevel_NoPrime:PySem.W.kitOne K (.ref Af) (.ref Ag)=some false)
 (ai_NoLevel_NoStage:PySem.W.kitOne K (.ref Af) (.ref Ad)=some false)
 (ai_NoLevel_NoPair:PySem.W.kitOne K (.ref Af) (.ref Av)=some false)
 (ai_NoLevel_NoRow:PySem.W.kitOne K (.ref Af) (.ref A2)=some false)
 (ai_NoLevel_NoPiece:PySem.W.kitOne K (.ref Af) (.ref Ar)=some false)
 (ai_NoLevel_NoRound:PySem.W.kitOne K (.ref Af) (.ref Aq)=some false)
 (as_NoPrime_HoleError:PySem.W.subIn K (.ref Ag) (.ref Al)=some true)
 (ai_NoPrime_NoShape:PySem.W.kitOne K (.ref Ag) (.ref Ap)=some false)
 (ai_NoPrime_NoText:PySem.W.kitOne K (.ref Ag) (.ref Au)=some false)
 (ai_NoPrime_NoName:PySem.W.kitOne K (.ref Ag) (.ref Aw)=some false)
 (ai_NoPrime_NoLevel:PySem.W.kitOne K (.ref Ag) (.ref Af)=some false)
 (ai_NoPrime_NoChain:PySem.W.kitOne K (.ref Ag) (.ref As)=some false)
 (ai_NoPrime_NoTable:PySem.W.kitOne K (.ref Ag) (.ref Ao)=some false)
 (ai_NoPrime_NoTurn:PySem.W.kitOne K (.ref Ag) (.ref At)=some false)
 (ai_NoPrime_NoMap:PySem.W.kitOne K (.ref Ag) (.ref A3)=some false)
 (ai_NoPrime_NoGlue:PySem.W.kitOne K (.ref Ag) (.ref Ax)=some false)
 (ai_NoPrime_NoPrime:PySem.W.kitOne K (.ref Ag) (.ref Ag)=some true)
 (ai_NoPrime_NoStage:PySem.W.kitOne K (.ref Ag) (.ref Ad)=some false)
 (ai_NoPrime_NoPair:PySem.W.kitOne K (.ref Ag) (.ref Av)=some false)
 (ai_NoPrime_NoRow:PySem.W.kitOne K (.ref Ag) (.ref A2)=some false)
 (ai_NoPrime_NoPiece:PySem.W.kitOne K (.ref Ag) (.ref Ar)=some false)
 (ai_NoPrime_NoRound:PySem.W.kitOne K (.ref Ag) (.ref Aq)=some false)
 (as_NoStage_HoleError:PySem.W.subIn K (.ref Ad) (.ref Al)=some true)
 (ai_NoStage_NoShape:PySem.W.kitOne K (.ref Ad) (.ref Ap)=some false)
 (ai_NoStage_NoText:PySem.W.kitOne K (.ref Ad) (.ref Au)=some false)
 (ai_NoStage_NoName:PySem.W.kitOne K (.ref Ad) (.ref Aw)=some false)
 (ai_NoStage_NoLevel:PySem.W.kitOne K (.ref Ad) (.ref Af)=some false)
 (ai_NoStage_NoChain:PySem.W.kitOne K (.ref Ad) (.ref As)=some false)
 (ai_NoStage_NoTable:PySem.W.kitOne K (.ref Ad) (.ref Ao)=some false)
 (ai_NoStage_NoTurn:PySem.W.kitOne K (.ref Ad) (.ref At)=some false)
 (ai_NoStage_NoMap:PySem.W.kitOne K (.ref Ad) (.ref A3)=some false)
 (ai_NoStage_NoGlue:PySem.W.kitOne K (.ref Ad) (.ref Ax)=some false)
 (ai_NoStage_NoPrime:PySem.W.kitOne K (.ref Ad) (.ref Ag)=some false)
 (ai_NoStage_NoStage:PySem.W.kitOne K (.ref Ad) (.ref Ad)=some true)
 (ai_NoStage_NoPair:PySem.W.kitOne K (.ref Ad) (.ref Av)=some false)
 (ai_NoStage_NoRow:PySem.W.kitOne K (.ref Ad) (.ref A2)=some false)
 (ai_NoStage_NoPiece:PySem.W.kitOne K (.ref Ad) (.ref Ar)=some false)
 (ai_NoStage_NoRound:PySem.W.kitOne K (.ref Ad) (.ref Aq)=some false)
 (pg_Growth:PySem.W.plainGet K Ac Str.empty=true)
 (hd_Growth:PySem.W.hasDictIn K Ac=true)
 (po_Growth:PySem.W.plainOver K Ac=true)
 (sa_Growth:PySem.W.findIn K (.ref Ac) "__setattr__"=some (some (.builtin "object.__setattr__")))
 (na_Growth_prime:PySem.W.findIn K (.ref Ac) "prime"=some none)
 (na_Growth_pieces:PySem.W.findIn K (.ref Ac) "pieces"=some none)
 (na_Growth_sheets:PySem.W.findIn K (.ref Ac) "sheets"=some none)
 (na_Growth_edges:PySem.W.findIn K (.ref Ac) "edges"=some none)
 (na_Growth_enders:PySem.W.findIn K (.ref Ac) "enders"=some none)
 (ac_FACE_COUNTS:PySem.W.nsIn K mainGlobals "FACE_COUNTS"=some (some (.ref fc_FACE_COUNTS)))
 (lc_FACE_COUNTS:K.lookup fc_FACE_COUNTS=some ⟨.type "tuple",none,.seq #[.int 0 tc_FACE_COUNTS_0,.int 2 tc_FACE_COUNTS_1,.int 3 tc_FACE_COUNTS_2,.int 4 tc_FACE_COUNTS_3] nc_FACE_COUNTS,slc_FACE_COUNTS⟩)
 (aq_MOST_PIECES:PySem.W.nsIn K mainGlobals "MOST_PIECES"=some (some (.int 40 t_MOST_PIECES)))
 (aq_PRIME_BOUND:PySem.W.nsIn K mainGlobals "PRIME_BOUND"=some (some (.int 98 t_PRIME_BOUND)))
 (aq_LEVELS:PySem.W.nsIn K mainGlobals "LEVELS"=some (some (.int 4 t_LEVELS)))
 (z_isinstance:PySem.W.nsIn K mainGlobals "isinstance"=some none)
 (z_int:PySem.W.nsIn K mainGlobals "int"=some none)
 (z_bool:PySem.W.nsIn K mainGlobals "bool"=some none)
 (z_tuple:PySem.W.nsIn K mainGlobals "tuple"=some none)
 (z_zip:PySem.W.nsIn K mainGlobals "zip"=some none)
 (z_max:PySem.W.nsIn K mainGlobals "max"=some none)
 (z_len:PySem.W.nsIn K mainGlobals "len"=some none)
 (z_all:PySem.W.nsIn K mainGlobals "all"=some none)
 (z_range:PySem.W.nsIn K mainGlobals "range"=some none)
 (z_dict:PySem.W.nsIn K mainGlobals "dict"=some none)
 (z_enumerate:PySem.W.nsIn K mainGlobals "enumerate"=some none)
 (z_list:PySem.W.nsIn K mainGlobals "list"=some none)
 (z_ValueError:PySem.W.nsIn K mainGlobals "ValueError"=some none) :
 ∃ fd:FuncData,(∀ (s:Shared) (v:Value),BindsTo s fd ⟨[v],[]⟩ [("_law_script",v)])/\∀ base:Heap,K.In base->base.Ns mainGlobals mg->FnOk l.prog w K mg base CX0 7 fa fd ["_law_script"] (Ae5 K):=by
 have e:=hfa.symm.trans (PySem.W.mg_of X G zq5g)
 cases e
 have T:Txt K mg Al Ap Au Aw Af As Ao At A3 Ax Ag Ad Av A2 Ar Aq Ac:=⟨PySem.W.mg_of X G ac_HoleError,ak_HoleError,PySem.W.mg_of X G ac_NoShape,PySem.W.mg_of X G ac_NoText,PySem.W.mg_of X G ac_NoName,PySem.W.mg_of X G ac_NoLevel,ae_NoLevel,⟨ak_NoLevel,a1_NoLevel,a2_NoLevel,a3_NoLevel,a4_NoLevel,a5_NoLevel⟩,av_NoLevel,PySem.W.mg_of X G ac_NoChain,PySem.W.mg_of X G ac_NoTable,PySem.W.mg_of X G ac_NoTurn,PySem.W.mg_of X G ac_NoMap,PySem.W.mg_of X G ac_NoGlue,PySem.W.mg_of X G ac_NoPrime,ae_NoPrime,⟨ak_NoPrime,a1_NoPrime,a2_NoPrime,a3_NoPrime,a4_NoPrime,a5_NoPrime⟩,av_NoPrime,PySem.W.mg_of X G ac_NoStage,ae_NoStage,⟨ak_NoStage,a1_NoStage,a2_NoStage,a3_NoStage,a4_NoStage,a5_NoStage⟩,av_NoStage,PySem.W.mg_of X G ac_NoPair,PySem.W.mg_of X G ac_NoRow,PySem.W.mg_of X G ac_NoPiece,PySem.W.mg_of X G ac_NoRound,as_NoLevel_HoleError,ai_NoLevel_NoShape,ai_NoLevel_NoText,ai_NoLevel_NoName,ai_NoLevel_NoLevel,ai_NoLevel_NoChain,ai_NoLevel_NoTable,ai_NoLevel_NoTurn,ai_NoLevel_NoMap,ai_NoLevel_NoGlue,ai_NoLevel_NoPrime,ai_NoLevel_NoStage,ai_NoLevel_NoPair,ai_NoLevel_NoRow,ai_NoLevel_NoPiece,ai_NoLevel_NoRound,as_NoPrime_HoleError,ai_NoPrime_NoShape,ai_NoPrime_NoText,ai_NoPrime_NoName,ai_NoPrime_NoLevel,ai_NoPrime_NoChain,ai_NoPrime_NoTable,ai_NoPrime_NoTurn,ai_NoPrime_NoMap,ai_NoPrime_NoGlue,ai_NoPrime_NoPrime,ai_NoPrime_NoStage,ai_NoPrime_NoPair,ai_NoPrime_NoRow,ai_NoPrime_NoPiece,ai_NoPrime_NoRound,as_NoStage_HoleError,ai_NoStage_NoShape,ai_NoStage_NoText,ai_NoStage_NoName,ai_NoStage_NoLevel,ai_NoStage_NoChain,ai_NoStage_NoTable,ai_NoStage_NoTurn,ai_NoStage_NoMap,ai_NoStage_NoGlue,ai_NoStage_NoPrime,ai_NoStage_NoStage,ai_NoStage_NoPair,ai_NoStage_NoRow,ai_NoStage_NoPiece,ai_NoStage_NoRound,PySem.W.mg_of X G ac_Growth,⟨pg_Growth,hd_Growth,po_Growth,sa_Growth⟩,na_Growth_prime,na_Growth_pieces,na_Growth_sheets,na_Growth_edges,na_Growth_enders,⟨fc_FACE_COUNTS,PySem.W.mg_of X G ac_FACE_COUNTS,fun H=>.inr ⟨_,_,_,lc_FACE_COUNTS,rfl,rfl,rfl,(by show (4:Nat)<=sizeLine;decide),.cons ⟨_,rfl⟩ (.cons ⟨_,rfl⟩ (.cons ⟨_,rfl⟩ (.cons ⟨_,rfl⟩ (.nil))))⟩⟩,⟨_,PySem.W.mg_of X G aq_MOST_PIECES⟩,⟨_,PySem.W.mg_of X G aq_PRIME_BOUND⟩,⟨_,PySem.W.mg_of X G aq_LEVELS⟩,PySem.W.mg_none_of X G z_isinstance,PySem.W.mg_none_of X G z_int,PySem.W.mg_none_of X G z_bool,PySem.W.mg_none_of X G z_tuple,PySem.W.mg_none_of X G z_zip,PySem.W.mg_none_of X G z_max,PySem.W.mg_none_of X G z_len,PySem.W.mg_none_of X G z_all,PySem.W.mg_none_of X G z_range,PySem.W.mg_none_of X G z_dict,PySem.W.mg_none_of X G z_enumerate,PySem.W.mg_none_of X G z_list,PySem.W.mg_none_of X G z_ValueError⟩
 have Wm:=Bj (st:=Fe) zq3h zq3l zq2x
 have Jc:=Bj (st:=B9) zq0k zq0o zq02
 have Wl:=Bj (st:=Fd) zq3g zq3k zq2w
 have Nc:=Bj (st:=Dd) zq23 zq2b zq0v
 have Ag8:=Bj (st:=Ho) zq4j zq4q zq3s
 have A69:=Bj (st:=Np) zq52 zq53 zq4p
 have Pa:=Bj (st:=Dy) zq2k zq2o zq1a
 have l6:=Bj (st:=Gn) zq3y zq45 zq39
 have Lr:=Bj (st:=Cw) zq1i zq1r zq0f
 have Lu:=Bj (st:=Cg) zq1k zq1t zq0h
 have Wo:=Bj (st:=Fg) zq3j zq3n zq2z
 have l7:=Bj (st:=Go) zq3z zq46 zq3a
 have Ty:=Bj (st:=Ec) zq32 zq35 zq29
 have m4:=Bj (st:=Gs) zq43 zq4a zq3e
 have l9:=Bj (st:=Gq) zq41 zq48 zq3c
 have Ah0:=Bj (st:=Kr) zq4l zq4s zq3u
 have Pe:=Bj (st:=D0) zq2n zq2r zq1d
 have Tx:=Bj (st:=Eb) zq31 zq34 zq28
 have l8:=Bj (st:=Gp) zq40 zq47 zq3b
 have m3:=Bj (st:=Gr) zq42 zq49 zq3d
 have Ah1:=Bj (st:=Hq) zq4m zq4t zq3v
 have Pb:=Bj (st:=Dz) zq2l zq2p zq1b
 have Jd:=Bj (st:=Ca) zq0l zq0p zq03
 have Bf1:=Bj (st:=Vq) zq57 zq59 zq55
 have Tw:=Bj (st:=Ea) zq30 zq33 zq27
 have Nb:=Bj (st:=Dc) zq22 zq2a zq0u
 have Ah3:=Bj (st:=Hr) zq4o zq4v zq3x
 have Ag9:=Bj (st:=Kq) zq4k zq4r zq3t
 have Ln:=Bj (st:=Cd) zq1e zq1n zq0b
 have Lp:=Bj (st:=Cv) zq1g zq1p zq0d
 have Fy:=Bj (st:=Bv) zq05 zq06 zq00
 have Nd:=Bj (st:=De) zq24 zq2c zq0w
 have Wn:=Bj (st:=Ff) zq3i zq3m zq2y
 have Je:=Bj (st:=B1) zq0m zq0q zq04
 have Ls:=Bj (st:=Cy) zq1j zq1s zq0g
 have Ah2:=Bj (st:=Ks) zq4n zq4u zq3w
 have Pd:=Bj (st:=C7) zq2m zq2q zq1c
 have Nf:=Bj (st:=Df) zq25 zq2d zq0x
 have Bf2:=Bj (st:=Q3) zq58 zq5a zq56
 have Ko:FunD K "__init__" "Growth.__init__" Ck Da _ [.int 2 tk_Growth__init__0]:=⟨⟨Iw,Iv,Ix,Iy,Iu,Jb,E5,Iz,Ir,E4,Ip,Gj,Gk,rfl,zq11,zq17,zq0j⟩,zq12⟩
 have Er:FunD K "alive" "Growth.alive" Cz Dr _ [.none]:=⟨⟨Jv,Ju,J1,Kb,Jq,Km,Fv,Kc,Jp,Fu,Jg,Io,Iq,rfl,zq1l,zq1u,zq0z⟩,zq01⟩
 have m5:=Bj (st:=Gu) zq44 zq4b zq3f
 have Lo:=Bj (st:=Ce) zq1f zq1o zq0c
 have Ng:=Bj (st:=Cp) zq26 zq2e zq0y
 have Lq:=Bj (st:=Cf) zq1h zq1q zq0e
 have Kn:=Bj (st:=B5) zq10 zq16 zq08
 have Bx4:=Bj (st:=Ub) zq5d zq5f zq5e
 refine⟨PySem.W.fnOf "law" "law" (Bd Ub) (Ba Ub) (Aj Ub) .none Be2 Be5 Bd1 Bf0 A50 Be6,fun s v=>.of_eq rfl,fun base _ _=>?_⟩
 have Oc:Has l.prog w K mg base "is_whole" ["thing"] 1 (Et K):=⟨_,_,PySem.W.mg_of X G zq3p,zq2x,Wm.binds (ps:=["thing"]) (fun _ _ _ _ _ _=>Ps (fun _=>rfl)),w9 Wm T ⟩
 have E1:Has l.prog w K mg base "shared_divisor" ["one","other"] 1 (n0 K):=⟨_,_,PySem.W.mg_of X G zq0r,zq02,Jc.binds (ps:=["one","other"]) (fun _ _ _ _ _ _=>Jf (fun _ _=>rfl)),Ny Jc T ⟩
 have C0:Has l.prog w K mg base "level_of" ["piece"] 1 (Cc K):=⟨_,_,PySem.W.mg_of X G zq3o,zq2w,Wl.binds (ps:=["piece"]) (fun _ _ _ _ _ _=>Ps (fun _=>rfl)),v9 Wl T ⟩
 have Ic:Has l.prog w K mg base "faces_agree" ["shape","faces"] 1 (F8 K):=⟨_,_,PySem.W.mg_of X G zq2g,zq0v,Nc.binds (ps:=["shape","faces"]) (fun _ _ _ _ _ _=>Jf (fun _ _=>rfl)),Ui Nc T ⟩
 have Ky:Has l.prog w K mg base "add_at" ["chain","place","number"] 1 (Jk K):=⟨_,_,PySem.W.mg_of X G zq4w,zq3s,Ag8.binds (ps:=["chain","place","number"]) (fun _ _ _ _ _ _=>Pp (fun _ _ _=>rfl)),Aw1 Ag8 T ⟩
 have X8:Has l.prog w K mg base "times" ["number","chain"] 1 (Wu K):=⟨_,_,PySem.W.mg_of X G zq54,zq4p,A69.binds (ps:=["number","chain"]) (fun _ _ _ _ _ _=>Jf (fun _ _=>rfl)),Ba3 A69 T ⟩
 have J2:Has l.prog w K mg base "check_size" ["pieces"] 1 (Wv K):=⟨_,_,PySem.W.mg_of X G zq2s,zq1a,Pa.binds (ps:=["pieces"]) (fun _ _ _ _ _ _=>Ps (fun _=>rfl)),Xm Pa T ⟩
 have Fr:Has l.prog w K mg base "counted" ["chain","prime"] 1 (Kp K):=⟨_,_,PySem.W.mg_of X G zq4c,zq39,l6.binds (ps:=["chain","prime"]) (fun _ _ _ _ _ _=>Jf (fun _ _=>rfl)),Ak8 l6 T ⟩
 have Fq:HasM l.prog w K mg base Ac "shape" ["self"] 1 (Qm K Ac):=⟨_,_,⟨zq1z,zq13,zq0f⟩,Lr.binds (ps:=["self"]) (fun _ _ _ _ _ _=>Ps (fun _=>rfl)),Rj Lr T ⟩
 have Bz:HasM l.prog w K mg base Ac "pairs" ["self"] 1 (Mp K Ac):=⟨_,_,⟨zq21,zq15,zq0h⟩,Lu.binds (ps:=["self"]) (fun _ _ _ _ _ _=>Ps (fun _=>rfl)),Rl Lu T ⟩
 have Kx:Has l.prog w K mg base "is_alive" ["pair","stage"] 1 (Qi K):=⟨_,_,PySem.W.mg_of X G zq3r,zq2z,Wo.binds (ps:=["pair","stage"]) (fun _ _ _ _ _ _=>Jf (fun _ _=>rfl)),y3 Wo T ⟩
 have D6:Has l.prog w K mg base "_law_whole" ["_law_found"] 1 (Et K):=⟨_,_,PySem.W.mg_of X G zq4d,zq3a,l7.binds (ps:=["_law_found"]) (fun _ _ _ _ _ _=>Ps (fun _=>rfl)),Ak9 l7 T ⟩
 have Ig:Has l.prog w K mg base "_law_cell_at" ["_law_script","_law_k"] 1 (Jm K):=⟨_,_,PySem.W.mg_of X G zq38,zq29,Ty.binds (ps:=["_law_script","_law_k"]) (fun _ _ _ _ _ _=>Jf (fun _ _=>rfl)),Zm Ty T ⟩
 have Dp:Has l.prog w K mg base "_law_level" ["_law_piece"] 1 (Cc K):=⟨_,_,PySem.W.mg_of X G zq4h,zq3e,m4.binds (ps:=["_law_piece"]) (fun _ _ _ _ _ _=>Ps (fun _=>rfl)),Al3 m4 T ⟩
 have Gz:Has l.prog w K mg base "_law_meets" ["_law_pieces","_law_faces","_law_face"] 1 (Ml K):=⟨_,_,PySem.W.mg_of X G zq4f,zq3c,l9.binds (ps:=["_law_pieces","_law_faces","_law_face"]) (fun _ _ _ _ _ _=>Pp (fun _ _ _=>rfl)),Al1 l9 T ⟩
 have Id:Has l.prog w K mg base "_law_pick" ["_law_cell","_law_j","_law_many"] 1 (Mo K):=⟨_,_,PySem.W.mg_of X G zq4y,zq3u,Ah0.binds (ps:=["_law_cell","_law_j","_law_many"]) (fun _ _ _ _ _ _=>Pp (fun _ _ _=>rfl)),Aw3 Ah0 T ⟩
 have D3:Has l.prog w K mg base "_law_faces_by" ["_law_word","_law_family"] 1 (E7 K):=⟨_,_,PySem.W.mg_of X G zq2v,zq1d,Pe.binds (ps:=["_law_word","_law_family"]) (fun _ _ _ _ _ _=>Jf (fun _ _=>rfl)),Xp Pe T ⟩
 have Mc:Has l.prog w K mg base "_law_word_by" ["_law_cell","_law_family","_law_letters"] 1 (Jl K):=⟨_,_,PySem.W.mg_of X G zq37,zq28,Tx.binds (ps:=["_law_cell","_law_family","_law_letters"]) (fun _ _ _ _ _ _=>Pp (fun _ _ _=>rfl)),Zl Tx T ⟩
 have Sh:Has l.prog w K mg base "_law_prime" ["_law_cell"] 1 (Lw K):=⟨_,_,PySem.W.mg_of X G zq4e,zq3b,l8.binds (ps:=["_law_cell"]) (fun _ _ _ _ _ _=>Ps (fun _=>rfl)),Al0 l8 T ⟩
 have hn_L_marks:HasN l.prog w K mg base "_law_marks" ["_law_e"] 1 (Ji K Ap Au Aw Af As Ao At A3 Ax Ag Ad Av A2 Ar Aq):=⟨_,_,PySem.W.mg_of X G zq4g,zq3d,m3.binds (ps:=["_law_e"]) (fun _ _ _ _ _ _=>Ps (fun _=>rfl)),Al2 m3 T ⟩
 have Em:Has l.prog w K mg base "_law_only" ["_law_at"] 1 (Mm K):=⟨_,_,PySem.W.mg_of X G zq4z,zq3v,Ah1.binds (ps:=["_law_at"]) (fun _ _ _ _ _ _=>Ps (fun _=>rfl)),Aw4 Ah1 T ⟩
 have B2:Has l.prog w K mg base "_law_thing_by" ["_law_cell","_law_many"] 1 (Jh K):=⟨_,_,PySem.W.mg_of X G zq2t,zq1b,Pb.binds (ps:=["_law_cell","_law_many"]) (fun _ _ _ _ _ _=>Jf (fun _ _=>rfl)),Xn Pb T ⟩
 have Bc:Has l.prog w K mg base "is_whole_below" ["thing","bound"] 2 (Fi K):=⟨_,_,PySem.W.mg_of X G zq0s,zq03,Jd.binds (ps:=["thing","bound"]) (fun _ _ _ _ _ _=>Jf (fun _ _=>rfl)),Nz Jd T Oc⟩
 have Af9:Has l.prog w K mg base "plus" ["one","other"] 2 (m9 K):=⟨_,_,PySem.W.mg_of X G zq5b,zq55,Bf1.binds (ps:=["one","other"]) (fun _ _ _ _ _ _=>Jf (fun _ _=>rfl)),Bi9 Bf1 T Ky⟩
 have Mb:Has l.prog w K mg base "add_faces" ["chain","faces","number"] 2 (Jj K):=⟨_,_,PySem.W.mg_of X G zq36,zq27,Tw.binds (ps:=["chain","faces","number"]) (fun _ _ _ _ _ _=>Pp (fun _ _ _=>rfl)),Zk Tw T Ky⟩
 have Ib:Has l.prog w K mg base "turned_over" ["number","prime"] 2 (Ww K):=⟨_,_,PySem.W.mg_of X G zq2f,zq0u,Nb.binds (ps:=["number","prime"]) (fun _ _ _ _ _ _=>Jf (fun _ _=>rfl)),Uh Nb T E1⟩
 have P8:Has l.prog w K mg base "_law_fits" ["_law_pieces","_law_thing"] 2 (Qe K):=⟨_,_,PySem.W.mg_of X G zq51,zq3x,Ah3.binds (ps:=["_law_pieces","_law_thing"]) (fun _ _ _ _ _ _=>Jf (fun _ _=>rfl)),Aw6 Ah3 T Dp Gz D6⟩
 have X9:Has l.prog w K mg base "_law_side" ["_law_pieces","_law_cell"] 2 (Qj K):=⟨_,_,PySem.W.mg_of X G zq4x,zq3t,Ag9.binds (ps:=["_law_pieces","_law_cell"]) (fun _ _ _ _ _ _=>Jf (fun _ _=>rfl)),Aw2 Ag9 T Id⟩
 have Gb:Has l.prog w K mg base "_law_words_with" ["_law_words","_law_word","_law_family"] 2 (Fj K):=⟨_,_,PySem.W.mg_of X G zq1v,zq0b,Ln.binds (ps:=["_law_words","_law_word","_law_family"]) (fun _ _ _ _ _ _=>Pp (fun _ _ _=>rfl)),Rf Ln T D3⟩
 have Bo:Has l.prog w K mg base "_law_is_from_to" ["_law_thing","_law_low","_law_high"] 2 (Mn K):=⟨_,_,PySem.W.mg_of X G zq1x,zq0d,Lp.binds (ps:=["_law_thing","_law_low","_law_high"]) (fun _ _ _ _ _ _=>Pp (fun _ _ _=>rfl)),Rh Lp T D6⟩
 have Dv:Has l.prog w K mg base "is_place_of_level" ["shape","thing","level"] 3 (Dh K):=⟨_,_,PySem.W.mg_of X G zq07,zq00,Fy.binds (ps:=["shape","thing","level"]) (fun _ _ _ _ _ _=>Pp (fun _ _ _=>rfl)),K3 Fy T Bc C0⟩
 have El:HasX l.prog w K mg base "check_level" ["k","bound"] 3 (Qh K Af):=⟨_,_,PySem.W.mg_of X G zq2h,zq0w,Nd.binds (ps:=["k","bound"]) (fun _ _ _ _ _ _=>Jf (fun _ _=>rfl)),Uj Nd T Bc⟩
 have Od:Has l.prog w K mg base "is_prime" ["thing"] 3 (Qg K):=⟨_,_,PySem.W.mg_of X G zq3q,zq2y,Wn.binds (ps:=["thing"]) (fun _ _ _ _ _ _=>Ps (fun _=>rfl)),x9 Wn T Bc⟩
 have Ee:HasM l.prog w K mg base Ac "settled" ["self","sheet","edge"] 3 (Jo K Ac):=⟨_,_,⟨zq0t,zq0a,zq04⟩,Je.binds (ps:=["self","sheet","edge"]) (fun _ _ _ _ _ _=>Pp (fun _ _ _=>rfl)),N1 Je T Fr Ib Af9 X8⟩
 have Ey:A66 l.prog w K mg base Ac "paper" ["self","place"] 3 (Ql K Ac Ad):=⟨_,_,⟨zq20,zq14,zq0g⟩,Ls.binds (ps:=["self","place"]) (fun _ _ _ _ _ _=>Jf (fun _ _=>rfl)),Rk Ls T Bc⟩
 have Ya:Has l.prog w K mg base "_law_next" ["_law_pieces","_law_cell"] 3 (Qk K):=⟨_,_,PySem.W.mg_of X G zq50,zq3w,Ah2.binds (ps:=["_law_pieces","_law_cell"]) (fun _ _ _ _ _ _=>Jf (fun _ _=>rfl)),Aw5 Ah2 T X9 Gz Id Dp⟩
 have J3:Has l.prog w K mg base "_law_shape_by" ["_law_kind","_law_cells","_law_most"] 3 (Lv K):=⟨_,_,PySem.W.mg_of X G zq2u,zq1c,Pd.binds (ps:=["_law_kind","_law_cells","_law_most"]) (fun _ _ _ _ _ _=>Pp (fun _ _ _=>rfl)),Xo Pd T Gb Mc D3⟩
 have Ie:Has l.prog w K mg base "_law_due_alive" ["_law_pieces","_law_pairs","_law_k","_law_stage"] 3 (Wy K):=⟨_,_,PySem.W.mg_of X G zq2i,zq0x,Nf.binds (ps:=["_law_pieces","_law_pairs","_law_k","_law_stage"]) (fun _ _ _ _ _ _=>Bt9 (fun _ _ _ _=>rfl)),Uk Nf T Bo Em Dp⟩
 have A11:Has l.prog w K mg base "fits" ["shape","thing"] 4 (Wx K):=⟨_,_,PySem.W.mg_of X G zq5c,zq56,Bf2.binds (ps:=["shape","thing"]) (fun _ _ _ _ _ _=>Jf (fun _ _=>rfl)),Bj0 Bf2 T C0 Ic Dv⟩
 have hcx_Growth:A67 l.prog w K mg base Ac ["self","prime"] 4 (spX_init K Ac Ag):=⟨_,_,⟨mk_Growth,zq19,zq0n,kc_Growth⟩,Ko.binds (ps:=["self","prime"]) (dd:=[]) (fun _ _ _ _ _ _ _ us hl=>by obtain⟨x,y,rfl⟩:∃ x y,us=[x,y]:=Be0 (by simpa using hl);exact ⟨_,rfl,rfl⟩),Pl Ko T Od⟩
 have hc_Growth:HasC l.prog w K mg base Ac ["self","prime"] 4 (sp_Growth__init_Ok K Ac):=hcx_Growth.down (init_down)
 have hmxd_Growth_alive:HasMXD l.prog w K mg base Ac "alive" ["self","k","stage"] [.non] 4 (Jn K Ac Af Ad):=⟨_,_,[.none],⟨zq0i,zq09,zq01⟩,Er.binds (ps:=["self","k","stage"]) (dd:=[.none]) (fun _ _ _ _ _ _ _ us hl=>by obtain⟨x,y,rfl⟩:∃ x y,us=[x,y]:=Be0 (by simpa using hl);exact ⟨_,rfl,rfl⟩),.cons rfl (.nil),Jt Er T El Bc Bz C0 Kx⟩
 have Ez:A66 l.prog w K mg base Ac "alive" ["self","k","stage"] 4 (Jn K Ac Af Ad):=⟨_,_,⟨zq0i,zq09,zq01⟩,Er.binds (ps:=["self","k","stage"]) (dd:=[]) (fun _ _ _ _ _ _ _ us hl=>by obtain⟨x,y,z,rfl⟩:∃ x y z,us=[x,y,z]:=Bb1 (by simpa using hl);exact ⟨_,rfl,rfl⟩),Jt Er T El Bc Bz C0 Kx⟩
 have Si:Has l.prog w K mg base "_law_built" ["_law_kind","_law_cells","_law_most"] 4 (Qf K):=⟨_,_,PySem.W.mg_of X G zq4i,zq3f,m5.binds (ps:=["_law_kind","_law_cells","_law_most"]) (fun _ _ _ _ _ _=>Pp (fun _ _ _=>rfl)),Al4 m5 T J3 P8 Ya⟩
 have Gc:Has l.prog w K mg base "_law_paper_told" ["_law_growth","_law_pieces","_law_cell"] 4 (Hm K Ac):=⟨_,_,PySem.W.mg_of X G zq1w,zq0c,Lo.binds (ps:=["_law_growth","_law_pieces","_law_cell"]) (fun _ _ _ _ _ _=>Pp (fun _ _ _=>rfl)),Rg Lo T B2 Bo Ey hn_L_marks Em⟩
 have Ga:HasM l.prog w K mg base Ac "grow" ["self","thing"] 5 (Qn K Ac):=⟨_,_,⟨zq2j,zq1m,zq0y⟩,Ng.binds (ps:=["self","thing"]) (fun _ _ _ _ _ _=>Jf (fun _ _=>rfl)),Ul Ng T J2 Mb Ee A11 Fr⟩
 have Gd:Has l.prog w K mg base "_law_alive_told" ["_law_growth","_law_pieces","_law_pairs","_law_cell"] 5 (Hn K Ac):=⟨_,_,PySem.W.mg_of X G zq1y,zq0e,Lq.binds (ps:=["_law_growth","_law_pieces","_law_pairs","_law_cell"]) (fun _ _ _ _ _ _=>Bt9 (fun _ _ _ _=>rfl)),Ri Lq T B2 Ie hmxd_Growth_alive Ez hn_L_marks D6⟩
 have Fs:Has l.prog w K mg base "_law_growth_made" ["_law_cell"] 6 (Wz K Ac):=⟨_,_,PySem.W.mg_of X G zq18,zq08,Kn.binds (ps:=["_law_cell"]) (fun _ _ _ _ _ _=>Ps (fun _=>rfl)),Pk Kn T B2 Bo Fq hn_L_marks Em hcx_Growth⟩
 exact Bq8 Bx4 T Si hc_Growth Bz Ig Sh Ga Gc Fs Gd
theorem walk {l:PySem.W.OpenLaw}{q:Program}{loose:List Str}{XP:(Str->Option Value)->Heap->Prop}{YP:World->Heap->Prop}{d:DefRec}{K:Params->PySem.W.Frag} (hn:l.most=some 63) (hdf:d.params.defaults=[])
 (hY:∀ (w:World) (h:Heap),YP w h->(K w.params).In h)
 (F:∀ (w:World) (mg:Str->Option Value) (fa:Addr) (h:Heap),(K w.params).In h->h.Ns mainGlobals mg->mg d.name=some (.ref fa) →
   ∃ fd:FuncData,(∀ (s:Shared) (u:Value),BindsTo s fd ⟨[u],[]⟩ [("_law_script",u)])/\∀ base:Heap,(K w.params).In base->base.Ns mainGlobals mg->FnOk l.prog w (K w.params) mg base CX0 7 fa fd ["_law_script"] (Ae5 (K w.params))) :
 PySem.W.WalkO q loose XP YP l.row.toRowW d [] (fun f vs=>PySem.call f vs) :=
 L2.walk_of (n:=63) (k:=7) (x:="_law_script") (CX:=fun _=>CX0) (sp:=fun w=>Ae5 (K w.params)) hn (by decide) hdf ⟨rfl,by decide,by decide,rfl⟩ hY F (fun _ _ a ns hl _ hS=>⟨a,ns,rfl,hS,hl,fun _=>rfl⟩) fun _ _ _ _ _ z=>z
end Hb
namespace PySem.W.Fast
def tw4065300434769557546:=0
def tw10870788749193194939:=0
def tw12265834983192941738:=0
def tw9440384011507590497:=0
def tw12926269891426197288:=0
def tw17089495565794185826:=0
def tw5827504079403401137:=0
def tw2555941332387431594:=0
def tw417449133499830362:=0
def tw17483211423770803123:=0
def tw17215388793668657328:=0
def tw16055345759704826218:=0
def tw14683546787623949019:=0
def tw13088197216923037412:=0
def tw12966116584109499269:=0
def tw2347384202349861933:=0
def tw16194217580098699921:=0
def tw13005776503144674581:=0
def tw11318973620767461822:=0
def tw7019728626110545195:=0
def tw4237442632366773108:=0
def tw4064601294351852730:=0
def tw13810048626620735815:=0
def tw7045969474705376331:=0
def tw10132196104584842611:=0
def tw8822297240578474152:=0
def tw16187294176265537092:=0
def tw10085299146841245322:=0
def tw2197177885801316379:=0
def tw11512894505201950406:=0
def tw7619592436831853017:=0
def tw16419005021180337103:=0
def tw485684424341755804:=0
def tw14607987765280780669:=0
def tw5621389447166210664:=0
def tw8482457465313052641:=0
def tw12517005527691081484:=0
def tw16059935536956600284:=0
def tw941707108946095578:=0
def tw15363129055314352862:=0
def tw5182319986616048786:=0
def tw18021472026921488405:=0
def tw560399333246016463:=0
def tw11653353896938058130:=0
def tw6632301887652019465:=0
def tw16572406283744387212:=0
def tw2811435946236301456:=0
def tw4714730481493195671:=0
def tw7158463970682801526:=0
def tw15924373551988135811:=0
def tw6081902017448451832:=0
def tw306505204866328921:=0
def tw5332469762541651717:=0
def tw11547188455174206546:=0
def tw14701635410466204958:=0
def tw18073992979440793878:=0
def tw9143043587494180481:=0
def tw9275032260657389892:=0
def tw2644078455024028826:=0
def tw9904494914731043608:=0
def tw12935450435136793607:=0
def tw6886613197578877623:=0
def tw6105554474213357888:=0
def tw2119950024109101999:=0
def tw17542072772945905071:=0
def tw2088549074779025695:=0
def tw5567214748540492870:=0
def tw11033492123424881865:=0
def tw17626037616294895600:=0
def tw15110549203058865058:=0
def tw10177147103850246145:=0
def tw17318485678622949873:=0
def tw8584609280094168179:=0
def tw7373949370742713671:=0
def tw1745960211415776514:=0
def tw5367340265485271014:=0
def tw2929980248084206263:=0
def tw12433639687972986355:=0
def tw2432704731841311891:=0
def tw950445520552778036:=0
def tw14554657337629631191:=0
def tw641267585676785071:=0
def tw1831857851638521654:=0
def tw10745848630304274383:=0
def tw2223145914324108831:=0
def tw7600732739658126921:=0
def tw6439583095054862214:=0
def tw16131447814599033120:=0
def tw6458405294027792022:=0
def tw2423597680249793961:=0
def tw4407097794562850775:=0
def tw845799374729668693:=0
def tw13890170735557708742:=0
def tw13282327901905892741:=0
def tw5173926011875937718:=0
def tw3534132351018703061:=0
def tw12423984787757134787:=0
def tw6000241257785668542:=0
def tw5574825982481541048:=0
def tw10695043646536201706:=0
def tw5050532507581896049:=0
def tw8046975258849345729:=0
def tw3543706713870072166:=0
def tw1483446017881795422:=0
def tw3553038511584039102:=0
def tw752380971843821511:=0
def tw18183876257562061844:=0
def tw1254376950143281693:=0
def tw157574660112579686:=0
def tw2308215311634155888:=0
def tw5857876908062744116:=0
def tw9651182115723512833:=0
def tw10504556606023675843:=0
def tw6921288428357713602:=0
def tw10454000030418579172:=0
def tw3655397009340226774:=0
def tw16915044104019346613:=0
def tw15621931628548570570:=0
def tw11311883539581836889:=0
def tw679356054693604767:=0
def tw14963830454695602164:=0
def tw10227145432607774918:=0
def tw6171100612165958177:=0
def tw6196956711805824084:=0
def tw3580109756508338752:=0
def tw17865158141289893663:=0
def tw14746700541284843322:=0
def tw18101667306872997595:=0
def tw2780070651130594134:=0
def tw1237387390316303476:=0
def tw7466656989919395815:=0
def tw11773047968331040508:=0
def tw13192302148953518259:=0
def tw9195025568808160089:=0
def tw1686247294366603587:=0
def tw4427779039266233172:=0
def tw11581735907421105833:=0
def tw11331554298359891386:=0
def tw10075308615962442677:=0
def tw256110363132216104:=0
def tw6349837612985246382:=0
def tw8363728444375632478:=0
def tw16376754914016443076:=0
def tw5858028927610377046:=0
def tw15613568367640261446:=0
def tw6428998642935241327:=0
def tw2744711331801119312:=0
def tw81695451993419642:=0
def tw11524275014873124157:=0
def tw9501663220672532878:=0
def tw11707779599517284882:=0
def tw9666644138732635663:=0
def tw9240472360472607972:=0
def tw12386054524823930317:=0
def tw6607372843562414493:=0
def tw8370821230319001327:=0
def tw750573876668811868:=0
def tw15233982365049183139:=0
def tw13986189480436358719:=0
def tw18441407122461418999:=0
def tw12879872311054480519:=0
def tw11047156160635649816:=0
def tw7832742157196277358:=0
def tw15820403472065034397:=0
def tw13419053990349322556:=0
def tw5081330202519612465:=0
def tw16419158800304931272:=0
def tw5152001393819853529:=0
def tw9937489221267124191:=0
def tw9246603054211060711:=0
def tw401835286243789476:=0
def tw4596581110017990195:=0
def tw11103372837387727658:=0
def tw366476974475754055:=0
def tw18236994270920235318:=0
def tw17426498754861249966:=0
def tw16098604474958090832:=0
def tw17764653763437977771:=0
def tw2007803075256635986:=0
def tw1596130607874112005:=0
def tw6584995487166219018:=0
def tw5573879218542015007:=0
def tw17584291254985350200:=0
def tw10390804315304302608:=0
def tw17193507799757227120:=0
def tw500495026036789226:=0
def tw5418780015435258223:=0
def tw15953516189201770087:=0
def tw2377371671001204893:=0
def tw3230872195813504539:=0
def tw11872010284346796265:=0
def tw12161496150411807717:=0
def tw16471083520548224583:=0
def tw11879669871108614842:=0
def tw13762746392649368722:=0
def tw1000127129412126894:=0
def tw7262320991664821702:=0
def tw970480043856212519:=0
def tw16630378588350832393:=0
def tw3696678902314831059:=0
def tw7387127837976706004:=0
def tw12973758942707238835:=0
def tw8360536189694768123:=0
def tw5407151347426362741:=0
def tw14923722135950635472:=0
def tw14249211618558899352:=0
def tw15674699872245541838:=0
def tw3204727549876118585:=0
def tw2523140160862622384:=0
def tw3804192820406292994:=0
def tw15983772352179647695:=0
def tw2689792087137171359:=0
def tw1553049650700036534:=0
def tw9079547413050444151:=0
def tw12992464846145162826:=0
def tw3260376777015237005:=0
def tw15724464991235275545:=0
def tw15184250874761617937:=0
def tw7053132818803187776:=0
def tw6657919414884561716:=0
def tw17871384202432742208:=0
def tw3799096233668741581:=0
def tw4549703651325356072:=0
def tw474187662691648540:=0
def tw17698442374079445461:=0
def tw4671897590675759513:=0
def tw1835946308923262250:=0
def tw2686499221914425409:=0
def tw5642954095725662708:=0
def tw9302704188424672575:=0
def tw12814968115376424455:=0
def tw15967030841538210217:=0
def tw7697003313035687363:=0
def tw1246021505430206349:=0
def tw12633926068624130612:=0
def tw3343414548105451688:=0
def tw4497536544036630129:=0
def tw10486210490928334195:=0
def tw4019933952754990468:=0
def tw1203480042218015614:=0
def tw8252605037412342175:=0
def tw13620531280184319531:=0
def tw4791658741931180078:=0
def tw10756757042507603265:=0
def tw6112865640630620036:=0
def tw8433557237400842225:=0
def tw4495294788335994292:=0
def tw9743763297241798478:=0
def tw17647165861475896004:=0
def tw300033052245433470:=0
def tw10130397614637949225:=0
def tw1895751492765825336:=0
def tw13479662870080910513:=0
def tw2090729946755006946:=0
def tw2917800464461883586:=0
def tw4948153717832181000:=0
def tw9139718556497911382:=0
def tw10747155626755459301:=0
def tw10559778407478897817:=0
def tw16242981847283437494:=0
def tw5302707902068039015:=0
def tw1596329475632701635:=0
def tw1683312864977966299:=0
def tw2462747021951749210:=0
def tw10451031759670522580:=0
def tw6663870781418050449:=0
def tw3850354004021800306:=0
def tw13721428149384367048:=0
def tw13166320270382293657:=0
def tw496412506876415636:=0
def tw14596021576042481896:=0
def tw15952100585676861802:=0
def tw11936326559370297196:=0
def tw15747456320239496240:=0
def tw4821790139411429399:=0
def tw17727693234499563279:=0
def tw5196007062998987199:=0
def tw1858300439136192273:=0
def tw8196516498506548681:=0
def tw1449582444153368564:=0
def tw11624838432629630152:=0
def tw10509088335975744054:=0
def tw12899879413798730953:=0
def tw16689027953573292794:=0
def tw11576116892659227792:=0
def tw1155032862085637382:=0
def tw17307160815363208540:=0
def tw3826639720465610592:=0
def tw6728703920327531383:=0
def tw15930625107902520495:=0
def tw1535993976576118372:=0
def tw14464688998005271945:=0
def tw16319900338205779117:=0
def tw15516763278727227614:=0
def tw8364414800919415422:=0
def tw10112995586514366857:=0
def tw14105269363306692281:=0
def tw12565265376456125112:=0
def tw17346363722802358282:=0
def tw1465289456151787018:=0
def tw15461496808934009779:=0
def tw3652429457567392696:=0
def tw338192159225991009:=0
def tw6762827748567944787:=0
def tw7361329023708945043:=0
def tw3504024775436593739:=0
def tw9641003085653675059:=0
def tw14826018392577320058:=0
def tw676975542667942498:=0
def tw7309355216406579371:=0
def tw17524961340821524055:=0
def tw1923944636861181672:=0
def tw9632368188052160848:=0
def tw138471292026491432:=0
def tw7322493942173828671:=0
def tw872705601326902970:=0
def tw5016920004871975821:=0
def tw17143278860455552787:=0
def tw17063039284088915218:=0
def tw4648243347408542559:=0
def tw5876613698077881567:=0
def tw13393222976853287274:=0
def tw14843743257413786175:=0
def tw4351968933455241323:=0
def tw16409642529369242569:=0
def tw15294463009099519467:=0
def tw4285795102179333424:=0
def tw18265156466176064552:=0
def tw9488174940284913266:=0
def tw13583054717260705073:=0
def tw11392513552054333435:=0
def tw2213461994925423408:=0
def tw2693610918031531111:=0
def tw5036092959474750189:=0
def tw12640989379503371489:=0
def tw10354447973731598006:=0
def tw5137229980288270975:=0
def tw8672079374445442174:=0
def tw10020804578383160970:=0
def tw7926414602844075390:=0
def tw18424069677989152660:=0
def tw8754411353171241598:=0
def tw15073462204863134680:=0
def tw2966607829532239806:=0
def tw5286711472267994122:=0
def tw7420285488756725793:=0
def tw14951100177747883256:=0
def tw4516249832809004823:=0
def tw36448555935533562:=0
def tw799546970364179640:=0
def tw2266531179083979378:=0
def tw13598622868156147583:=0
def tw4237263445418990226:=0
def tw7913953596240116795:=0
def tw16535761478480257370:=0
def tw12398231637597007400:=0
def tw18099401687025616697:=0
def tw2327418434322273344:=0
def tw2581681824095410266:=0
def tw5134672780968320588:=0
def tw17616868218125433102:=0
def tw17396680341987380540:=0
def tw7053877236615900575:=0
def tw11509671929148653000:=0
def tw12581481496103168407:=0
def tw13684574685230855965:=0
def tw4941428309669439545:=0
def tw4919973184527471644:=0
def tw1759251752340069594:=0
def tw16552351162043689727:=0
def tw8504922254386399219:=0
def tw7242345612373308555:=0
def tw6888964281578048126:=0
def tw11835307455717995940:=0
def tw8634651381427576895:=0
def tw3381617468663370551:=0
def tw1908545093154073258:=0
def tw9690909205976849591:=0
def tw2027859350845392479:=0
def tw4302772209032219341:=0
def tw6382880760497873313:=0
def tw15042428753055102542:=0
def tw6398583812734202272:=0
def tw14168261316618190665:=0
def tw7866510112961479408:=0
def tw2388624071270103971:=0
def tw7619737793591350555:=0
def tw6360418538063857314:=0
def tw14774042469060810978:=0
def tw15540086379556522348:=0
def tw14474108862551406909:=0
def tw11537626441250908330:=0
def tw15382238164204459774:=0
def tw17370319230506381567:=0
def tw2540061049203773453:=0
def tw14411536124630980903:=0
def tw12137654032768442535:=0
def tw16764058318592568371:=0
def tw15421791526523731487:=0
def tw15439033568257619266:=0
def tw16363915403688053560:=0
def tw9838667572064876761:=0
def tw14481234693888394447:=0
def tw17890018647218353953:=0
def tw2324453739500694266:=0
def tw12753196465635681732:=0
def tw5391816045516919843:=0
def tw1290522860319070211:=0
def tw7892071787918666526:=0
def tw10504579668111264525:=0
def tw11751889463403242680:=0
def tw6725985873290692762:=0
def tw10359200721710238051:=0
def tw14904826175661675658:=0
def tw4577535751864954329:=0
def tw11723361637981267189:=0
def tw7381572182216861812:=0
def tw12387482736143196337:=0
def tw17059928261304680371:=0
def tw7945550968396734801:=0
def tw616836918406914133:=0
def tw6921357174127609623:=0
def tw9452106862154141300:=0
def tw6656400134720301977:=0
def tw6075614841695375564:=0
def tw3125374815736898998:=0
def tw17429350392861130184:=0
def tw1079453990701173090:=0
def tw7825898413200079796:=0
def tw6310951049339676860:=0
def tw8875549752663416430:=0
def tw18342940736490522173:=0
def tw7582867877917213395:=0
def tw17573060243823644193:=0
def tw2753155395587499500:=0
def tw6418469012855296307:=0
def tw2413059791475579073:=0
def tw518368654689084072:=0
def tw10402662002305415113:=0
def tw12787692517760610310:=0
def tw10319813226188955445:=0
def tw16392168527595538096:=0
def tw15906108633074693755:=0
def tw152002182304699063:=0
def tw11712751552197071209:=0
def tw5841601514120654989:=0
def tw5495538693094347654:=0
def tw8197092360679129354:=0
def tw11649460288219531172:=0
def tw16934732942532234180:=0
def tw7955708011986163151:=0
def tw4768834366842478119:=0
def tw17166399830454505714:=0
def tw8805629539975765433:=0
def tw14795093944088955607:=0
def tw10030343096306127109:=0
def tw16522777663269060569:=0
def tw14415344092609636772:=0
def tw10518585293181423980:=0
def tw809141915633614976:=0
def tw11724691397114677054:=0
def tw3696550268454172610:=0
def tw4336099670881911799:=0
def tw8522993601867334245:=0
def tw2120249614581736910:=0
def tw722151346759540080:=0
def tw11620647984015525139:=0
def tw18348740343643037516:=0
def tw14386707404357475418:=0
def tw3022200057802397740:=0
def tw14647611383851508097:=0
def tw78831381542268936:=0
def tw3046067100201113390:=0
def tw9212685869506170716:=0
def tw541380613128848461:=0
def tw17083435531188383341:=0
def tw13186694129474216947:=0
def tw11999198384560141485:=0
def tw4205594705958596715:=0
def tw6730190339604835649:=0
def tw10357081717951565586:=0
def tw15299343742107648430:=0
def tw15535210716150807391:=0
def tw16818380850290539292:=0
def tw13475004295862497148:=0
def tw5751587844914557798:=0
def tw2234940249806002986:=0
def tw6926799198729216364:=0
def tw15206385748257146655:=0
def tw3994486029348400384:=0
def tw4220871351831775736:=0
def tw6351452000673705117:=0
def tw16770853179510153527:=0
def tw4310493128930101399:=0
def tw15550852043480081848:=0
def tw1706704408152041661:=0
def tw10072885151011686213:=0
def tw8511224903525297853:=0
def tw3613034962506187786:=0
def tw16455448426682329299:=0
def tw15473307191847979054:=0
def tw7749642193531609940:=0
def tw7601407852351824182:=0
def tw13988712609083102922:=0
def tw17269033342267817473:=0
def tw9839141975193325249:=0
def tw6131310454649502227:=0
def tw2355496059128713005:=0
def tw2964323525514876793:=0
def tw2658210273616718468:=0
def tw11819050580111268356:=0
def tw11346808750960446185:=0
def tw16760603632412886254:=0
def tw12284896496765605414:=0
def tw4075552641972354203:=0
def tw11770934605141493599:=0
def tw3816803157688382955:=0
def tw4355460941001453006:=0
def tw17701520713931344885:=0
def tw664141739225656363:=0
def tw17562650832952322710:=0
def tw1883196427836016036:=0
def tw2871826655263275358:=0
def tw2215398363711471850:=0
def tw10825145055596351684:=0
def tw15085875295505443576:=0
def tw11102168031225165221:=0
def tw10796037763496647252:=0
def tw2483686366811899751:=0
def tw15882658200377143335:=0
def tw4398577019119024808:=0
def tw16508743397991781606:=0
def tw6790908360075994093:=0
def tw16163124562959271197:=0
def tw5340239103101951997:=0
def tw6779029533620137118:=0
def tw2938748912186755608:=0
def tw3922225294522200818:=0
def tw1089625909695066124:=0
def tw13010527419248027650:=0
def tw14561886082154512323:=0
def tw6094394150748073831:=0
def tw6301517573851054643:=0
def tw16363200050036695344:=0
def tw3899954959559263269:=0
def tw8746776380337397742:=0
def tw11886924183647248550:=0
def tw16896469695599452461:=0
def tw849372643829182532:=0
def tw77080821604110924:=0
def tw3814179811972606105:=0
def tw7917592744315035545:=0
def tw12876372312421182380:=0
def tw16837954458054765107:=0
def tw4800516223108475936:=0
def tw14124121233134066444:=0
def tw3776156005850365676:=0
def tw5413292987535539455:=0
def tw5651562128647139621:=0
def tw11165568393626599771:=0
def tw13903982011080701484:=0
def tw12945044857802390978:=0
def tw5660179607842707704:=0
def tw4136634250022135946:=0
def tw8319653396367039676:=0
def tw8443552728007552646:=0
def tw17343454191136040541:=0
def tw13590556379047852377:=0
def tw3224673361219581435:=0
def tw6508498403408527277:=0
def tw15545316547211556241:=0
def tw15945987152912943266:=0
def tw3744291268143480581:=0
def tw10576447433226496050:=0
def tw12547774738319594161:=0
def tw9350267973686956814:=0
def tw2782661164296193227:=0
def tw5068918420357265356:=0
def tw108447725882635563:=0
def tw11819182391183513499:=0
def tw16220269952195797392:=0
def tw13332235301059679515:=0
def tw139857843078155936:=0
def tw1934869427890342691:=0
def tw12984225886673410888:=0
def tw14513384924413049490:=0
def tw12094759503099657111:=0
def tw11461617653671937964:=0
def tw10732404483135692351:=0
def tw10674645830202205566:=0
def tw13115433178394379674:=0
def tw14511472517990045248:=0
def tw18001596700676727617:=0
def tw4670343695402684079:=0
def tw3244199546416781586:=0
def tw17747350107062397567:=0
def tw14392668669284267814:=0
def tw5420861023834160432:=0
def tw10269480668285836739:=0
def tw5121544077521306645:=0
def tw4839111184739373550:=0
def tw4336645846264954554:=0
def tw965305790613884116:=0
def tw8219880278998152839:=0
def tw4853248702192528849:=0
def tw4065506592350665746:=0
def tw17795892725070812265:=0
def tw12861736725976305177:=0
def tw13155771978762990801:=0
def tw10527772830245442087:=0
def tw6869699490784429951:=0
def tw5402325116002923167:=0
def tw7033835481782059152:=0
def tw298264326791218565:=0
def tw12207599625865771448:=0
def tw16917362245015264074:=0
def tw17744068230693717674:=0
def tw7663503362799800997:=0
def tw2662720289348154197:=0
def tw15339188144994575847:=0
def tw13934654242344808357:=0
def tw8404270582554679249:=0
def tw11860255024222108941:=0
def tw16449228710357514793:=0
def tw4155521095121732041:=0
def tw15891566613956529686:=0
def tw10289096529974301039:=0
def tw6358917729446742247:=0
def tw2881097687068894376:=0
def tw16681044134463743486:=0
def tw6802223710821776990:=0
def tw12252178941715045401:=0
def tw237461532385306664:=0
def tw16756428087961618490:=0
def tw10568226482256674048:=0
def tw2804864187960740236:=0
def tw14107820512065645079:=0
def tw2916145149644371463:=0
def tw8134394944384545746:=0
def tw15286700341935845709:=0
def tw625663499332378279:=0
def tw15850204173500925878:=0
def tw11497136207134335746:=0
def tw15911031456889850951:=0
def tw1854297493041762915:=0
end PySem.W.Fast
open PySem PySem.W PyProof.Rows
set_option maxRecDepth 100000 in
set_option maxHeartbeats 0 in
theorem PySem.Challenge.cw_holebook_k57_stages_asked_holds : PySem.Challenge.rw_holebook_k57_stages_asked.Holds := by
 w_on;o_law;k_head;(case hw=>w_witness2)
 k_fill
 refine Hb.walk (l:=PySem.Challenge.rw_holebook_k57_stages_asked) rfl rfl (fun w h Y=>PySem.W.kIn_of Y) ?F
 case F =>
  intro w mg fa h KX G hmg
  refine' Hb.all_mk KX G hmg ?ac_HoleError ?ac_NoShape ?ac_NoText ?ac_NoName ?ac_NoLevel ?ac_NoChain ?ac_NoTable ?ac_NoTurn ?ac_NoMap ?ac_NoGlue ?ac_NoPrime ?ac_NoStage ?ac_NoPair ?ac_NoRow ?ac_NoPiece ?ac_NoRound ?ac_Growth ?zq3p ?zq3h ?zq3l ?zq2x ?zq0r ?zq0k ?zq0o ?zq02 ?zq3o ?zq3g ?zq3k ?zq2w ?zq2g ?zq23 ?zq2b ?zq0v ?zq4w ?zq4j ?zq4q ?zq3s ?zq54 ?zq52 ?zq53 ?zq4p ?zq2s ?zq2k ?zq2o ?zq1a ?zq4c ?zq3y ?zq45 ?zq39 ?zq1z ?zq13 ?zq1i ?zq1r ?zq0f ?zq21 ?zq15 ?zq1k ?zq1t ?zq0h ?zq3r ?zq3j ?zq3n ?zq2z ?zq4d ?zq3z ?zq46 ?zq3a ?zq38 ?zq32 ?zq35 ?zq29 ?zq4h ?zq43 ?zq4a ?zq3e ?zq4f ?zq41 ?zq48 ?zq3c ?zq4y ?zq4l ?zq4s ?zq3u ?zq2v ?zq2n ?zq2r ?zq1d ?zq37 ?zq31 ?zq34 ?zq28 ?zq4e ?zq40 ?zq47 ?zq3b ?zq4g ?zq42 ?zq49 ?zq3d ?zq4z ?zq4m ?zq4t ?zq3v ?zq2t ?zq2l ?zq2p ?zq1b ?zq0s ?zq0l ?zq0p ?zq03 ?zq5b ?zq57 ?zq59 ?zq55 ?zq36 ?zq30 ?zq33 ?zq27 ?zq2f ?zq22 ?zq2a ?zq0u ?zq51 ?zq4o ?zq4v ?zq3x ?zq4x ?zq4k ?zq4r ?zq3t ?zq1v ?zq1e ?zq1n ?zq0b ?zq1x ?zq1g ?zq1p ?zq0d ?zq07 ?zq05 ?zq06 ?zq00 ?zq2h ?zq24 ?zq2c ?zq0w ?zq3q ?zq3i ?zq3m ?zq2y ?zq0t ?zq0a ?zq0m ?zq0q ?zq04 ?zq20 ?zq14 ?zq1j ?zq1s ?zq0g ?zq50 ?zq4n ?zq4u ?zq3w ?zq2u ?zq2m ?zq2q ?zq1c ?zq2i ?zq25 ?zq2d ?zq0x ?zq5c ?zq58 ?zq5a ?zq56 ?zq19 ?zq0n ?zq11 ?zq0j ?zq17 ?zq12 ?zq0i ?zq09 ?zq1l ?zq0z ?zq1u ?zq01 ?zq4i ?zq44 ?zq4b ?zq3f ?zq1w ?zq1f ?zq1o ?zq0c ?zq2j ?zq1m ?zq26 ?zq2e ?zq0y ?zq1y ?zq1h ?zq1q ?zq0e ?zq18 ?zq10 ?zq16 ?zq08 ?zq5g ?zq5d ?zq5f ?zq5e ?mk_Growth ?kc_Growth ?ak_HoleError ?ae_NoLevel ?ak_NoLevel ?a1_NoLevel ?a2_NoLevel ?a3_NoLevel ?a4_NoLevel ?a5_NoLevel ?av_NoLevel ?ae_NoPrime ?ak_NoPrime ?a1_NoPrime ?a2_NoPrime ?a3_NoPrime ?a4_NoPrime ?a5_NoPrime ?av_NoPrime ?ae_NoStage ?ak_NoStage ?a1_NoStage ?a2_NoStage ?a3_NoStage ?a4_NoStage ?a5_NoStage ?av_NoStage ?as_NoLevel_HoleError ?ai_NoLevel_NoShape ?ai_NoLevel_NoText ?ai_NoLevel_NoName ?ai_NoLevel_NoLevel ?ai_NoLevel_NoChain ?ai_NoLevel_NoTable ?ai_NoLevel_NoTurn ?ai_NoLevel_NoMap ?ai_NoLevel_NoGlue ?ai_NoLevel_NoPrime ?ai_NoLevel_NoStage ?ai_NoLevel_NoPair ?ai_NoLevel_NoRow ?ai_NoLevel_NoPiece ?ai_NoLevel_NoRound ?as_NoPrime_HoleError ?ai_NoPrime_NoShape ?ai_NoPrime_NoText ?ai_NoPrime_NoName ?ai_NoPrime_NoLevel ?ai_NoPrime_NoChain ?ai_NoPrime_NoTable ?ai_NoPrime_NoTurn ?ai_NoPrime_NoMap ?ai_NoPrime_NoGlue ?ai_NoPrime_NoPrime ?ai_NoPrime_NoStage ?ai_NoPrime_NoPair ?ai_NoPrime_NoRow ?ai_NoPrime_NoPiece ?ai_NoPrime_NoRound ?as_NoStage_HoleError ?ai_NoStage_NoShape ?ai_NoStage_NoText ?ai_NoStage_NoName ?ai_NoStage_NoLevel ?ai_NoStage_NoChain ?ai_NoStage_NoTable ?ai_NoStage_NoTurn ?ai_NoStage_NoMap ?ai_NoStage_NoGlue ?ai_NoStage_NoPrime ?ai_NoStage_NoStage ?ai_NoStage_NoPair ?ai_NoStage_NoRow ?ai_NoStage_NoPiece ?ai_NoStage_NoRound ?pg_Growth ?hd_Growth ?po_Growth ?sa_Growth ?na_Growth_prime ?na_Growth_pieces ?na_Growth_sheets ?na_Growth_edges ?na_Growth_enders ?ac_FACE_COUNTS ?lc_FACE_COUNTS ?aq_MOST_PIECES ?aq_PRIME_BOUND ?aq_LEVELS ?z_isinstance ?z_int ?z_bool ?z_tuple ?z_zip ?z_max ?z_len ?z_all ?z_range ?z_dict ?z_enumerate ?z_list ?z_ValueError
  (case ac_HoleError=>k_is);(case ac_NoShape=>k_is);(case ac_NoText=>k_is);(case ac_NoName=>k_is)
  (case ac_NoLevel=>k_is);(case ac_NoChain=>k_is);(case ac_NoTable=>k_is);(case ac_NoTurn=>k_is)
  (case ac_NoMap=>k_is);(case ac_NoGlue=>k_is);(case ac_NoPrime=>k_is);(case ac_NoStage=>k_is)
  (case ac_NoPair=>k_is);(case ac_NoRow=>k_is);(case ac_NoPiece=>k_is);(case ac_NoRound=>k_is)
  (case ac_Growth=>k_is);(case ac_FACE_COUNTS=>k_is);(case zq3p=>k_is);(case zq3h=>k_is)
  (case zq3l=>k_is);(case zq2x=>k_is);(case zq0r=>k_is);(case zq0k=>k_is)
  (case zq0o=>k_is);(case zq02=>k_is);(case zq3o=>k_is);(case zq3g=>k_is)
  (case zq3k=>k_is);(case zq2w=>k_is);(case zq2g=>k_is);(case zq23=>k_is)
  (case zq2b=>k_is);(case zq0v=>k_is);(case zq4w=>k_is);(case zq4j=>k_is)
  (case zq4q=>k_is);(case zq3s=>k_is);(case zq54=>k_is);(case zq52=>k_is)
  (case zq53=>k_is);(case zq4p=>k_is);(case zq2s=>k_is);(case zq2k=>k_is)
  (case zq2o=>k_is);(case zq1a=>k_is);(case zq4c=>k_is);(case zq3y=>k_is)
  (case zq45=>k_is);(case zq39=>k_is);(case zq1z=>k_is);(case zq13=>k_is)
  (case zq1i=>k_is);(case zq1r=>k_is);(case zq0f=>k_is);(case zq21=>k_is)
  (case zq15=>k_is);(case zq1k=>k_is);(case zq1t=>k_is);(case zq0h=>k_is)
  (case zq3r=>k_is);(case zq3j=>k_is);(case zq3n=>k_is);(case zq2z=>k_is)
  (case zq4d=>k_is);(case zq3z=>k_is);(case zq46=>k_is);(case zq3a=>k_is)
  (case zq38=>k_is);(case zq32=>k_is);(case zq35=>k_is);(case zq29=>k_is)
  (case zq4h=>k_is);(case zq43=>k_is);(case zq4a=>k_is);(case zq3e=>k_is)
  (case zq4f=>k_is);(case zq41=>k_is);(case zq48=>k_is);(case zq3c=>k_is)
  (case zq4y=>k_is);(case zq4l=>k_is);(case zq4s=>k_is);(case zq3u=>k_is)
  (case zq2v=>k_is);(case zq2n=>k_is);(case zq2r=>k_is);(case zq1d=>k_is)
  (case zq37=>k_is);(case zq31=>k_is);(case zq34=>k_is);(case zq28=>k_is)
  (case zq4e=>k_is);(case zq40=>k_is);(case zq47=>k_is);(case zq3b=>k_is)
  (case zq4g=>k_is);(case zq42=>k_is);(case zq49=>k_is);(case zq3d=>k_is)
  (case zq4z=>k_is);(case zq4m=>k_is);(case zq4t=>k_is);(case zq3v=>k_is)
  (case zq2t=>k_is);(case zq2l=>k_is);(case zq2p=>k_is);(case zq1b=>k_is)
  (case zq0s=>k_is);(case zq0l=>k_is);(case zq0p=>k_is);(case zq03=>k_is)
  (case zq5b=>k_is);(case zq57=>k_is);(case zq59=>k_is);(case zq55=>k_is)
  (case zq36=>k_is);(case zq30=>k_is);(case zq33=>k_is);(case zq27=>k_is)
  (case zq2f=>k_is);(case zq22=>k_is);(case zq2a=>k_is);(case zq0u=>k_is)
  (case zq51=>k_is);(case zq4o=>k_is);(case zq4v=>k_is);(case zq3x=>k_is)
  (case zq4x=>k_is);(case zq4k=>k_is);(case zq4r=>k_is);(case zq3t=>k_is)
  (case zq1v=>k_is);(case zq1e=>k_is);(case zq1n=>k_is);(case zq0b=>k_is)
  (case zq1x=>k_is);(case zq1g=>k_is);(case zq1p=>k_is);(case zq0d=>k_is)
  (case zq07=>k_is);(case zq05=>k_is);(case zq06=>k_is);(case zq00=>k_is)
  (case zq2h=>k_is);(case zq24=>k_is);(case zq2c=>k_is);(case zq0w=>k_is)
  (case zq3q=>k_is);(case zq3i=>k_is);(case zq3m=>k_is);(case zq2y=>k_is)
  (case zq0t=>k_is);(case zq0a=>k_is);(case zq0m=>k_is);(case zq0q=>k_is)
  (case zq04=>k_is);(case zq20=>k_is);(case zq14=>k_is);(case zq1j=>k_is)
  (case zq1s=>k_is);(case zq0g=>k_is);(case zq50=>k_is);(case zq4n=>k_is)
  (case zq4u=>k_is);(case zq3w=>k_is);(case zq2u=>k_is);(case zq2m=>k_is)
  (case zq2q=>k_is);(case zq1c=>k_is);(case zq2i=>k_is);(case zq25=>k_is)
  (case zq2d=>k_is);(case zq0x=>k_is);(case zq5c=>k_is);(case zq58=>k_is)
  (case zq5a=>k_is);(case zq56=>k_is);(case zq19=>k_is);(case zq0n=>k_is)
  (case zq11=>k_is);(case zq0j=>k_is);(case zq17=>k_is);(case zq12=>k_is)
  (case zq0i=>k_is);(case zq09=>k_is);(case zq1l=>k_is);(case zq0z=>k_is)
  (case zq1u=>k_is);(case zq01=>k_is);(case zq4i=>k_is);(case zq44=>k_is)
  (case zq4b=>k_is);(case zq3f=>k_is);(case zq1w=>k_is);(case zq1f=>k_is)
  (case zq1o=>k_is);(case zq0c=>k_is);(case zq2j=>k_is);(case zq1m=>k_is)
  (case zq26=>k_is);(case zq2e=>k_is);(case zq0y=>k_is);(case zq1y=>k_is)
  (case zq1h=>k_is);(case zq1q=>k_is);(case zq0e=>k_is);(case zq18=>k_is)
  (case zq10=>k_is);(case zq16=>k_is);(case zq08=>k_is);(case zq5g=>k_is)
  (case zq5d=>k_is);(case zq5f=>k_is);(case zq5e=>k_is);(case mk_Growth=>k_is)
  (case kc_Growth=>k_is);(case ak_HoleError=>kts_isx);(case ae_NoLevel=>k_exc);(case ak_NoLevel=>kts_isx)
  (case a1_NoLevel=>k_is);(case a2_NoLevel=>k_is);(case a3_NoLevel=>k_is);(case a4_NoLevel=>k_is)
  (case a5_NoLevel=>k_is);(case av_NoLevel=>kit_is);(case ae_NoPrime=>k_exc);(case ak_NoPrime=>kts_isx)
  (case a1_NoPrime=>k_is);(case a2_NoPrime=>k_is);(case a3_NoPrime=>k_is);(case a4_NoPrime=>k_is)
  (case a5_NoPrime=>k_is);(case av_NoPrime=>kit_is);(case ae_NoStage=>k_exc);(case ak_NoStage=>kts_isx)
  (case a1_NoStage=>k_is);(case a2_NoStage=>k_is);(case a3_NoStage=>k_is);(case a4_NoStage=>k_is)
  (case a5_NoStage=>k_is);(case av_NoStage=>kit_is);(case as_NoLevel_HoleError=>k_is);(case ai_NoLevel_NoShape=>kit_is)
  (case ai_NoLevel_NoText=>kit_is);(case ai_NoLevel_NoName=>kit_is);(case ai_NoLevel_NoLevel=>kit_is);(case ai_NoLevel_NoChain=>kit_is)
  (case ai_NoLevel_NoTable=>kit_is);(case ai_NoLevel_NoTurn=>kit_is);(case ai_NoLevel_NoMap=>kit_is);(case ai_NoLevel_NoGlue=>kit_is)
  (case ai_NoLevel_NoPrime=>kit_is);(case ai_NoLevel_NoStage=>kit_is);(case ai_NoLevel_NoPair=>kit_is);(case ai_NoLevel_NoRow=>kit_is)
  (case ai_NoLevel_NoPiece=>kit_is);(case ai_NoLevel_NoRound=>kit_is);(case as_NoPrime_HoleError=>k_is);(case ai_NoPrime_NoShape=>kit_is)
  (case ai_NoPrime_NoText=>kit_is);(case ai_NoPrime_NoName=>kit_is);(case ai_NoPrime_NoLevel=>kit_is);(case ai_NoPrime_NoChain=>kit_is)
  (case ai_NoPrime_NoTable=>kit_is);(case ai_NoPrime_NoTurn=>kit_is);(case ai_NoPrime_NoMap=>kit_is);(case ai_NoPrime_NoGlue=>kit_is)
  (case ai_NoPrime_NoPrime=>kit_is);(case ai_NoPrime_NoStage=>kit_is);(case ai_NoPrime_NoPair=>kit_is);(case ai_NoPrime_NoRow=>kit_is)
  (case ai_NoPrime_NoPiece=>kit_is);(case ai_NoPrime_NoRound=>kit_is);(case as_NoStage_HoleError=>k_is);(case ai_NoStage_NoShape=>kit_is)
  (case ai_NoStage_NoText=>kit_is);(case ai_NoStage_NoName=>kit_is);(case ai_NoStage_NoLevel=>kit_is);(case ai_NoStage_NoChain=>kit_is)
  (case ai_NoStage_NoTable=>kit_is);(case ai_NoStage_NoTurn=>kit_is);(case ai_NoStage_NoMap=>kit_is);(case ai_NoStage_NoGlue=>kit_is)
  (case ai_NoStage_NoPrime=>kit_is);(case ai_NoStage_NoStage=>kit_is);(case ai_NoStage_NoPair=>kit_is);(case ai_NoStage_NoRow=>kit_is)
  (case ai_NoStage_NoPiece=>kit_is);(case ai_NoStage_NoRound=>kit_is);(case pg_Growth=>k_is);(case hd_Growth=>k_is)
  (case po_Growth=>k_is);(case sa_Growth=>k_is);(case na_Growth_prime=>k_is);(case na_Growth_pieces=>k_is)
  (case na_Growth_sheets=>k_is);(case na_Growth_edges=>k_is);(case na_Growth_enders=>k_is);(case lc_FACE_COUNTS=>k_is)
  (case aq_MOST_PIECES=>k_is);(case aq_PRIME_BOUND=>k_is);(case aq_LEVELS=>k_is);(case z_isinstance=>k_is)
  (case z_int=>k_is);(case z_bool=>k_is);(case z_tuple=>k_is);(case z_zip=>k_is)
  (case z_max=>k_is);(case z_len=>k_is);(case z_all=>k_is);(case z_range=>k_is)
  (case z_dict=>k_is);(case z_enumerate=>k_is);(case z_list=>k_is);(case z_ValueError=>k_is)