import PyProof.Rows.All
import Wide.All
import OpenK.AllK
import Wide.FinOn
import Lean
import PyProof.EqAt
import PyProof.EqKinds
import PyProof.TupleCall
import PySem.Challenge.RW_holebook_k58_taken_back_as_if_never
set_option linter.all false
set_option Elab.async false
set_option maxRecDepth 100000
set_option maxHeartbeats 4000000
noncomputable section
open PySem in
abbrev LLInt:=List (List Int)
open PySem in
abbrev LAObj:=List (Addr × Obj)
open PySem in
abbrev Bd:=Array (Option Value)
open PySem in
abbrev OAddr:=Option Addr
namespace L2
open PySem PySem.Spec PyProof.Rows
abbrev Key:=Sum Int Str
def d5:Key->Value->Bool
 | .inl k,v=>Value.isInt k v
 | .inr x,v=>Value.isStrOf x v
def zB(w:World):Key->Int
 | .inl k=>hashInt k
 | .inr x=>hashStr w x
theorem B4:∀{k:Key}{v:Value},d5 k v=true->(∃i t,k=Sum.inl i/\v=Value.int i t)\/(∃x t,k=Sum.inr x/\v=Value.str x t)
 | .inl i,v,h=>by
   obtain⟨t,e⟩:=Value.isInt_shape (k:=i) (v:=v) h;exact .inl ⟨i,t,rfl,e⟩
 | .inr x,v,h=>by
   obtain⟨t,e⟩:=Value.isStrOf_shape (x:=x) (v:=v) h;exact .inr ⟨x,t,rfl,e⟩
theorem iY(i:Int)(t:Tok):d5 (.inl i) (.int i t)=true:=by simp[d5,Value.isInt]
theorem IX(x:Str)(t:Tok):d5 (.inr x) (.str x t)=true:=by simp[d5,Value.isStrOf]
theorem SQ(a b:Int):decide ((Sum.inl a:Key)=Sum.inl b)=(a==b):=by
 by_cases e:a=b
 . subst e;simp
 . have h:¬(Sum.inl a:Key)=Sum.inl b:=fun q=>e (Sum.inl.inj q);rw[decide_eq_false h];exact(beq_eq_false_iff_ne.mpr e).symm
theorem SO(a b:Str):decide ((Sum.inr a:Key)=Sum.inr b)=decide (a=b):=by
 by_cases e:a=b
 . subst e;simp
 . have h:¬(Sum.inr a:Key)=Sum.inr b:=fun q=>e (Sum.inr.inj q);rw[decide_eq_false h,decide_eq_false e]
theorem sQ(a:Int)(b:Str):decide ((Sum.inl a:Key)=Sum.inr b)=false:=decide_eq_false (fun q=>nomatch q)
theorem sP(a:Str)(b:Int):decide ((Sum.inr a:Key)=Sum.inl b)=false:=decide_eq_false (fun q=>nomatch q)
def mixKind(prog:Program)(w:World):PySem.KeyKind prog w Key where
 is:=d5
 hash:=zB w
 inj:=fun v a b ha hb=>by
  rcases B4 ha with⟨i,t,rfl,rfl⟩|⟨x,t,rfl,rfl⟩
  . rcases B4 hb with⟨j,u,rfl,e⟩|⟨y,u,rfl,e⟩
    . injection e with e1 _;rw[e1]
    . exact nomatch e
  . rcases B4 hb with⟨j,u,rfl,e⟩|⟨y,u,rfl,e⟩
    . exact nomatch e
    . injection e with e1 _;rw[e1]
 byValue:=fun k v h=>by
  rcases B4 h with⟨i,t,rfl,rfl⟩|⟨x,t,rfl,rfl⟩<;>rfl
 pyHash:=fun hv h=>by
  rcases B4 hv with⟨i,t,rfl,rfl⟩|⟨x,t,rfl,rfl⟩
  . exact wpAny_pyHash_int h
  . exact wpAny_pyHash_str h
 eqBool:=fun hu hv h=>by
  rcases B4 hu with⟨i,t,rfl,rfl⟩|⟨x,t,rfl,rfl⟩
  . rcases B4 hv with⟨j,u,rfl,rfl⟩|⟨y,u,rfl,rfl⟩
    . rw[SQ]at h;exact wpAny_eqBool_int h
    . rw[sQ]at h;exact SeqAt.EqAt.int_str i t y u _ _ _ _ h
  . rcases B4 hv with⟨j,u,rfl,rfl⟩|⟨y,u,rfl,rfl⟩
    . rw[sP]at h;exact SeqAt.EqAt.str_int x t j u _ _ _ _ h
    . rw[SO]at h;exact wpAny_eqBool_str h
 «strs»:=fun k x t v h=>by
  rcases B4 h with⟨i,u,rfl,e⟩|⟨y,u,rfl,e⟩
  . exact nomatch e
  . injection e with e1 _;subst e1;cases v<;>rfl
theorem bY(prog:Program)(w:World)(i:Int)(t:Tok):(mixKind prog w).is (.inl i) (.int i t)=true:=iY i t
theorem BX(prog:Program)(w:World)(x:Str)(t:Tok):(mixKind prog w).is (.inr x) (.str x t)=true:=IX x t
inductive V where
 | non | bl (b:Bool) | int (i:Int) | str (x:Str) | byt (b:Array UInt8) | flt (b:UInt64) | ref (a:Addr) | ty (n:String)
 deriving DecidableEq
def RelV:V->Value->Prop
 | .non,u=>u=Value.none
 | .bl b,u=>u=Value.bool b
 | .int i,u=>∃t,u=Value.int i t
 | .str x,u=>∃t,u=Value.str x t
 | .byt b,u=>∃t,u=Value.bytes b t
 | .flt b,u=>∃t,u=Value.float b t
 | .ref a,u=>u=Value.ref a
 | .ty n,u=>u=Value.type n
abbrev Vals:List V->List Value->Prop:=Paired RelV
theorem Vals.length{xs:List V}{us:List Value}(r:Vals xs us):xs.length=us.length:=Paired.length r
theorem Vals.get:∀{xs:List V}{us:List Value}{i:Nat}{x:V},Vals xs us->xs[i]?=some x->∃u,us[i]?=some u/\RelV x u
 | _,_,_,_,.nil,e=>by simp at e
 | _,_,0,_,.cons r _,e=>by simp at e;subst e;exact⟨_,rfl,r⟩
 | _,_,i+1,x,.cons _ t,e=>by
   obtain⟨u,h1,h2⟩:=Vals.get (i:=i) (x:=x) t (by simpa using e);exact⟨u,by simpa using h1,h2⟩
theorem Vals.set{x:V}{u:Value}(r:RelV x u):∀{xs:List V}{us:List Value} (i:Nat),Vals xs us->Vals (xs.set i x) (us.set i u)
 | _,_,_,.nil=>.nil
 | _,_,0,.cons _ t=>.cons r t
 | _,_,i+1,.cons q t=>.cons q (Vals.set r i t)
theorem Vals.append:∀{xs ys:List V}{us ws:List Value},Vals xs us->Vals ys ws->Vals (xs++ys) (us++ws)
 | _,_,_,_,.nil,s=>s
 | _,_,_,_,.cons r t,s=>.cons r (Vals.append t s)
theorem Vals.take:∀{xs:List V}{us:List Value} (n:Nat),Vals xs us->Vals (xs.take n) (us.take n)
 | _,_,0,_=>.nil
 | _,_,_+1,.nil=>.nil
 | _,_,n+1,.cons r t=>.cons r (Vals.take n t)
theorem Vals.drop:∀{xs:List V}{us:List Value} (n:Nat),Vals xs us->Vals (xs.drop n) (us.drop n)
 | _,_,0,r=>r
 | _,_,_+1,.nil=>.nil
 | _,_,n+1,.cons _ t=>Vals.drop n t
def Jc:Option V->Option Value->Prop
 | some v,some u=>RelV v u
 | none,none=>True
 | _,_=>False
def KV{κ:Type}:List (κ × V)->List (κ × Value)->Prop:=Paired fun(p:κ × V) (q:κ × Value)=>p.1=q.1/\RelV p.2 q.2
def kV:Key->V
 | .inl i=>.int i
 | .inr x=>.str x
inductive HO where
 | lst (xs:List V)
 | tup (xs:List V)
 | dK (kvs:List (Key × V)) | dT (kvs:List (List Key × V))
 | set (S:Int->Bool) (n:Nat)
 | ins (C dx:Addr) (fs:List (Str × V))
 | own (x:Addr)
 | xd (fs:List (Str × V))
 | met (f x:Addr)
 | rng (lo hi:Int)
 | frz (o:Obj) (u:HO)
 | tbl (ps:Array Value)
 | ext (φ:Heap->Prop)
abbrev Hp:=Addr->Option HO
def upd(H:Hp)(a:Addr)(o:HO):Hp:=fun b=>if b=a then some o else H b
theorem Ad{H:Hp}{a:Addr}{o:HO}:upd H a o a=some o:=by unfold upd;rw[if_pos rfl]
theorem Ae{H:Hp}{a b:Addr}{o:HO}(h:b≠a):upd H a o b=H b:=by unfold upd;rw[if_neg h]
theorem Dh{H:Hp}{a b:Addr}{o u:HO}(h:H a=some o)(h':H b=some u)(d:o≠u):a≠b:=by
 intro e;subst e;rw[h]at h';exact d (Option.some.inj h')
theorem Ap{H:Hp}{a b:Addr}{o:HO}(h:H a=some o)(h':H b=none):a≠b:=by
 intro e;subst e;rw[h]at h';cases h'
def Jd(h:Heap)(a:Addr)(items:Array Value):Prop:=∃o,h.get? a=some o/\o.cls=.type "tuple"/\o.dict=none/\∃n,o.data=.seq items n
theorem Jd.tup{h:Heap}{a:Addr}{items:Array Value}(x:Jd h a items):IsTup h a items:=let ⟨o,e,c,_,d⟩:=x;⟨o,e,c,d⟩
theorem Jd.lt{h:Heap}{a:Addr}{items:Array Value}(x:Jd h a items):a<h.objs.size:=x.tup.lt
theorem Jd.new(h:Heap)(items:Array Value):Jd (h.push { cls:=.type "tuple",data:=.seq items }) h.objs.size items:=⟨_,Heap.get?_push_size _ rfl,rfl,rfl,_,rfl⟩
section
variable(P:Program)(w:World)
def ObjOk(H:Hp)(h:Heap)(a:Addr):HO->Prop
 | .lst xs=>xs.length<=sizeLine/\∃(its:List Value) (n:Nat),Vals xs its/\h.get? a=some { cls:=.type "list",data:=.seq its.toArray n }
 | .tup xs=>xs.length<=sizeLine/\∃its:List Value,Vals xs its/\Jd h a its.toArray
 | .dK kvs=>kvs.length<=sizeLine/\(a==sysModules)=false/\∃vs,KV kvs vs/\h.DictOf (mixKind P w) a vs
 | .dT kvs=>kvs.length<=sizeLine/\(a==sysModules)=false/\∃xs:List (List Key × Addr × Value),
    Paired (fun(p:List Key × V) (q:List Key × Addr × Value)=>p.1=q.1/\H q.2.1=some (.tup (p.1.map kV))/\RelV p.2 q.2.2) kvs xs ∧
    ∃o es ep,h.get? a=some o/\o.ExactDict/\o.data=.dict es ep/\es.toList=xs.map (entryOfKey (tupleKind (mixKind P w)))/\(xs.map (·.1)).Nodup
 | .set S n=>h.SetOf (intKind P w) a S n
 | .ins C dx fs=>H dx=some (.own a)/\fs.length<=1000/\dx≠a/\h.get? a=some (PySem.W.instObj C dx) ∧
    ∃mA,h.Ns1 dx mA/\(∀f,Jc (fs.lookup f) (mA f))/\PySem.Within mA (fs.map (·.1))
 | .own _=>∃o,h.get? a=some o
 | .xd fs=>∃mA,h.Ns1 a mA/\∀f,Jc (fs.lookup f) (mA f)
 | .rng lo hi=>∃t u v,h.get? a=some { cls:=.type "range",data:=.fields #[.int lo t,.int hi u,.int 1 v] }
 | .frz o u=>h.get? a=some o/\ObjOk H h a u
 | .tbl ps=>h.get? a=some { cls:=.none,data:=.fields ps }
 | .met f x=>h.get? a=some (PySem.W.methodObj (.ref f) (.ref x))
 | .ext φ=>φ h/\(∃o,h.get? a=some o)/\∀h1 h2:Heap,φ h1->(∀o,h1.get? a=some o->h2.get? a=some o)->φ h2
def L4(H:Hp)(h:Heap):Prop:=∀a o,H a=some o->ObjOk P w H h a o
end
section
variable{P:Program}{w:World}{H H':Hp}{h h':Heap}{a:Addr}{o:HO}
theorem ObjOk.lt(x:ObjOk P w H h a o):a<h.objs.size:=by
 cases o with
 | lst xs=>obtain⟨_,_,_,_,e⟩:=x;exact Heap.lt_size e
 | tup xs=>obtain⟨_,_,_,p⟩:=x;exact p.lt
 | dK kvs=>obtain⟨_,_,_,_,o,_,_,e,_⟩:=x;exact Heap.lt_size e
 | dT kvs=>obtain⟨_,_,_,_,o,_,_,e,_⟩:=x;exact Heap.lt_size e
 | set S n=>obtain⟨o,_,_,_,e,_⟩:=x;exact Heap.lt_size e
 | ins C dx fs=>obtain⟨_,_,_,e,_⟩:=x;exact Heap.lt_size e
 | own y=>obtain⟨_,e⟩:=x;exact Heap.lt_size e
 | xd fs=>obtain⟨_,⟨_,_,_,e,_⟩,_⟩:=x;exact Heap.lt_size e
 | rng lo hi=>obtain⟨_,_,_,e⟩:=x;exact Heap.lt_size e
 | frz ob u=>obtain⟨e,_⟩:=x;exact Heap.lt_size e
 | tbl ps=>exact Heap.lt_size (show h.get? a=some _ from x)
 | met f y=>exact Heap.lt_size (show h.get? a=some _ from x)
 | ext φ=>obtain⟨_,⟨_,e⟩,_⟩:=x;exact Heap.lt_size e
theorem Paired.mapP{α β:Type}{F G:α->β->Prop}:∀{l₁:List α}{l₂:List β},Paired F l₁ l₂->(∀a b,F a b->G a b)->Paired G l₁ l₂
 | _,_,.nil,_=>.nil
 | _,_,.cons r t,f=>.cons (f _ _ r) (Paired.mapP t f)
theorem ObjOk.stay(x:ObjOk P w H h a o)(k:∀b u,(b=a\/H b=some (.own a))->h.get? b=some u->h'.get? b=some u)
 (ho:∀b,H b=some (.own a)->H' b=some (.own a)) (ht:∀b xs,H b=some (.tup xs)->H' b=some (.tup xs)):ObjOk P w H' h' a o:=by
 induction o with
 | lst xs=>obtain⟨z,its,n,r,e⟩:=x;exact⟨z,its,n,r,k _ _ (.inl rfl) e⟩
 | tup xs=>obtain⟨z,its,r,ob,e,c⟩:=x;exact⟨z,its,r,ob,k _ _ (.inl rfl) e,c⟩
 | dK kvs=>obtain⟨z,y,vs,r,ob,es,ep,e,c⟩:=x;exact⟨z,y,vs,r,ob,es,ep,k _ _ (.inl rfl) e,c⟩
 | dT kvs =>
   obtain⟨z,y,xs,r,ob,es,ep,e,c⟩:=x;exact⟨z,y,xs,Paired.mapP r fun p q z=>⟨z.1,ht _ _ z.2.1,z.2.2⟩,ob,es,ep,k _ _ (.inl rfl) e,c⟩
 | set S n=>obtain⟨ob,es,ep,t,e,c⟩:=x;exact⟨ob,es,ep,t,k _ _ (.inl rfl) e,c⟩
 | ins C dx fs =>
   obtain⟨d,z,ne,e,mA,⟨od,es,ep,e2,c⟩,r⟩:=x;exact⟨ho _ d,z,ne,k _ _ (.inl rfl) e,mA,⟨od,es,ep,k _ _ (.inr d) e2,c⟩,r⟩
 | own y=>obtain⟨ob,e⟩:=x;exact⟨ob,k _ _ (.inl rfl) e⟩
 | xd fs=>obtain⟨mA,⟨od,es,ep,e,c⟩,r⟩:=x;exact⟨mA,⟨od,es,ep,k _ _ (.inl rfl) e,c⟩,r⟩
 | rng lo hi=>obtain⟨t,u,v,e⟩:=x;exact⟨t,u,v,k _ _ (.inl rfl) e⟩
 | frz ob u ih=>obtain⟨e,q⟩:=x;exact⟨k _ _ (.inl rfl) e,ih q⟩
 | tbl ps =>
   have e:h.get? a=some { cls:=.none,data:=.fields ps }:=x;show h'.get? a=some { cls:=.none,data:=.fields ps };exact k a _ (.inl rfl) e
 | met f y =>
   have e:h.get? a=some (PySem.W.methodObj (.ref f) (.ref y)):=x;show h'.get? a=some (PySem.W.methodObj (.ref f) (.ref y));exact k a _ (.inl rfl) e
 | ext φ=>obtain⟨p,⟨o,e⟩,st⟩:=x;exact⟨st _ _ p fun o q=>k _ _ (.inl rfl) q,⟨o,k _ _ (.inl rfl) e⟩,st⟩
theorem L4.lt(x:L4 P w H h)(e:H a=some o):a<h.objs.size:=(x a o e).lt
theorem L4.fresh(x:L4 P w H h)(e:h.objs.size<=a):H a=none:=by
 cases q:H a with
 | none=>rfl
 | some u=>exact absurd (Nat.lt_of_lt_of_le (x.lt q) e) (Nat.lt_irrefl _)
theorem L4.kept(x:L4 P w H h)(k:∀b u,h.get? b=some u->h'.get? b=some u):L4 P w H h':=fun a o e =>
 (x a o e).stay (fun b u _ q=>k b u q) (fun _ q=>q) fun _ _ q=>q
theorem L4.laid(x:L4 P w H h)(k:∀b u,h.get? b=some u->h'.get? b=some u)(hp:h.objs.size<=a)(new:ObjOk P w (upd H a o) h' a o):L4 P w (upd H a o) h':=fun b u e=>by
 have hn:=x.fresh hp;by_cases hb:b=a
 . subst hb;rw[Ad]at e;cases e;exact new
 . rw[Ae hb]at e;exact(x b u e).stay (fun c v _ q=>k c v q) (fun c q=>by rw[Ae (Ap q hn)];exact q) fun c xs q=>by rw[Ae (Ap q hn)];exact q
end
def Rd(H:Hp)(a:Addr)(u:HO):Prop:=H a=some u\/∃o,H a=some (.frz o u)
theorem Rd.of{H:Hp}{a:Addr}{u:HO}(h:H a=some u):Rd H a u:=.inl h
theorem Rd.ok{P:Program}{w:World}{H:Hp}{h:Heap}{a:Addr}{u:HO}(r:Rd H a u)(x:L4 P w H h):ObjOk P w H h a u:=by
 rcases r with r|⟨o,r⟩
 . exact x a u r
 . obtain⟨_,q⟩:=x a _ r;exact q
def Mut:Option HO->Prop
 | some (.lst _)=>True
 | some (.dK _)=>True
 | some (.dT _)=>True
 | some (.set _ _)=>True
 | some (.ins _ _ _)=>True
 | some (.ext _)=>True
 | _=>False
section
variable{P:Program}{w:World}{H:Hp}{h h':Heap}{x e:Addr}{o':HO}
theorem L4.write(ok:L4 P w H h)(mu:Mut (H x))(he:e=x\/H e=some (.own x))(k:∀b u,b≠e->h.get? b=some u->h'.get? b=some u)(UH:∃u,h'.get? e=some u)
 (new:ObjOk P w (upd H x o') h' x o'):L4 P w (upd H x o') h':=fun b u q=>by
 have VH:∀c y,H c=some (.own y)->c≠x:=fun c y r z=>by subst z;rw[r]at mu;exact mu
 have YT:∀c xs,H c=some (.tup xs)->c≠x:=fun c xs r z=>by subst z;rw[r]at mu;exact mu
 by_cases hb:b=x
 . subst hb;rw[Ad]at q;cases q;exact new
 . rw[Ae hb]at q;by_cases tF:b=e
   . have q':H b=some (.own x):=by
      rcases he with z | z
      . exact absurd (tF.trans z) hb
      . rw[tF];exact z
     rw[q]at q';cases q';obtain⟨v,hv⟩:=UH;exact⟨v,by rw[tF];exact hv⟩
   . refine(ok b u q).stay (fun c v hc r=>k c v ?_ r) (fun c r=>by rw[Ae (VH c b r)];exact r) fun c xs r=>by rw[Ae (YT c xs r)];exact r
     rcases hc with rfl | hc
     . exact tF
     . rintro rfl;rcases he with z | z
       . exact VH c b hc z
       . rw[hc]at z;cases z;exact hb rfl
end
structure Un(fs ex:List Addr)(H H':Hp)(h h':Heap):Prop where
 keep:∀b o,h.get? b=some o->H b=none->b ∉ fs->b ∉ ex->h'.get? b=some o
 slot:∀b o,h.get? b=some o->H b=none->b∈fs->b ∉ ex->∃sl,h'.get? b=some { o with slots:=sl }
 free:∀b o,h.get? b=some o->H b=none->b ∉ ex->H' b=none
 there:∀b o,h.get? b=some o->b ∉ ex->∃o',h'.get? b=some o'
 tups:∀b xs,H b=some (.tup xs)->H' b=some (.tup xs)
 frzs:∀b o u,H b=some (.frz o u)->H' b=some (.frz o u)
 tbls:∀b ps,H b=some (.tbl ps)->∃more,H' b=some (.tbl (ps++more))
section
variable{fs fs' ex ex':List Addr}{H H1 H2:Hp}{h h1 h2 h':Heap}{a x e:Addr}{o:HO}
theorem Un.any(u:Un fs ex H H1 h h1){b:Addr}{ob:Obj}(q:h.get? b=some ob)(n:H b=none)(hx:b ∉ ex):∃sl,h1.get? b=some { ob with slots:=sl }:=by
 by_cases hb:b∈fs
 . exact u.slot b ob q n hb hx
 . exact⟨ob.slots,u.keep b ob q n hb hx⟩
theorem Un.kept(k:∀b u,h.get? b=some u->h'.get? b=some u):Un fs ex H H h h' :=
 ⟨fun b ob q _ _ _=>k b ob q,fun b ob q _ _ _=>⟨ob.slots,k b ob q⟩,fun _ _ _ n _=>n,fun b ob q _=>⟨ob,k b ob q⟩,fun _ _ q=>q,fun _ _ _ q=>q,fun _ ps q=>⟨#[],by rw[q];simp⟩⟩
theorem Un.refl:Un fs ex H H h h:=Un.kept fun _ _ q=>q
theorem Un.laid(k:∀b u,h.get? b=some u->h'.get? b=some u)(hp:h.objs.size<=a)(hn:H a=none):Un fs ex H (upd H a o) h h' where
 keep:=fun b u q _ _ _=>k b u q
 slot:=fun b u q _ _ _=>⟨u.slots,k b u q⟩
 free:=fun b u q n _=>by rw[Ae (Nat.ne_of_lt (Nat.lt_of_lt_of_le (Heap.lt_size q) hp))];exact n
 there:=fun b u q _=>⟨u,k b u q⟩
 tups:=fun b xs q=>by rw[Ae (Ap q hn)];exact q
 frzs:=fun b u xs q=>by rw[Ae (Ap q hn)];exact q
 tbls:=fun b ps q=>⟨#[],by rw[Ae (Ap q hn),q];simp⟩
theorem Un.write(mu:Mut (H x))(he:e=x\/H e=some (.own x))(k:∀b u,b≠e->h.get? b=some u->h'.get? b=some u)(UH:∃u,h'.get? e=some u):Un fs ex H (upd H x o) h h':=by
 have hx:∀b,H b=none->b≠x:=fun b n z=>by subst z;rw[n]at mu;exact mu
 have hb:∀b,H b=none->b≠e:=fun b n z=>by
  subst z;rcases he with r | r
  . exact hx b n r
  . rw[n]at r;cases r
 have hm:∀b u,H b=some u->¬Mut (some u)->b≠x:=fun b u q nm z=>by subst z;rw[q]at mu;exact nm mu
 refine⟨fun b u q n _ _=>k b u (hb b n) q,fun b u q n _ _=>⟨u.slots,k b u (hb b n) q⟩,fun b u q n _=>by rw[Ae (hx b n)];exact n,fun b u q _=>?_,
  fun b xs q=>by rw[Ae (hm b _ q fun z=>z)];exact q,fun b u xs q=>by rw[Ae (hm b _ q fun z=>z)];exact q,fun b ps q=>⟨#[],by rw[Ae (hm b _ q fun z=>z),q];simp⟩⟩
 by_cases tF:b=e
 . subst tF;exact UH
 . exact⟨u,k b u tF q⟩
end
def trk(h:Heap)(H:Hp):List Addr:=(List.range h.objs.size).filter fun a=>(H a).isSome
def AI(h:Heap)(H:Hp):Heap:=PySem.W.hideAll h (trk h H)
theorem jH(h:Heap)(H:Hp):(AI h H).objs.size=h.objs.size:=PySem.W.hideAll_size _ _
theorem MT{h:Heap}{H:Hp}{b:Addr}{o:Obj}(e:h.get? b=some o)(n:H b=none):(AI h H).get? b=some o :=
 PySem.W.hideAll_get _ e fun hm=>by
  have q:(H b).isSome=true:=(List.mem_filter.mp hm).2;rw[n]at q;simp at q
theorem pL{h:Heap}{H:Hp}{b:Addr}{o:Obj}(e:(AI h H).get? b=some o):h.get? b=some o/\H b=none:=by
 have e':h.get? b=some o:=PySem.W.of_hideAll (trk h H) e;refine⟨e',?_⟩;cases q:H b with
 | none=>rfl
 | some x =>
   have hm:b∈trk h H:=List.mem_filter.mpr ⟨List.mem_range.mpr (Heap.lt_size e'),by simp[q]⟩;have z:(AI h H).get? b=none:=PySem.W.hideAll_none (trk h H) hm;rw[z]at e;cases e
structure Mod(K:W.Frag)(mg:Str->Option Value)(base:Heap):Prop where
 kin:K.In base
 glob:base.Ns mainGlobals mg
 blt:∃mb,base.Ns builtinsNs mb/\∀x:Str,x≠"__name__"->mb x=bootBuiltins x
 nolimit:base.NoLimit
structure Cx where
 prog:Program
 w:World
 K:PySem.W.Frag
 mg:Str->Option Value
 base:Heap
 A:Around
 N:List Str
 s₀:Shared
 H₀:Hp
 env:Env
 outer:List Env
 stack:List Env
 ex:List Addr
 fn:Str->Bool
 calm:Bool
 pn:LAObj
 xe:Value->Shared->Prop
def frs(l:List Env):List Addr:=l.filterMap (·.frame)
abbrev Cx.fs(X:Cx):List Addr:=frs X.outer
def UL(sc:Scope)(x:Str):Prop:=sc.names.lookup x=some .local\/sc.names.lookup x=some .cell\/sc.names.lookup x=some .free
def qH(sc:Scope)(x:Str):Prop:=sc.names.lookup x=some .local\/sc.names.lookup x=some .cell
def Ad1(env:Env)(h:Heap)(m:Str->Option Value)(x:Str)(u:Value):Prop :=
 (env.kindOf x=some .local/\m x=some u)\/((env.kindOf x=some .cell\/env.kindOf x=some .free)/\∃c,env.cells.lookup x=some c/\h.IsCell c (some u))
structure Cx.Ok(X:Cx):Prop where
 mod:Mod X.K X.mg X.base
 kind:X.env.scope.kind=.function
 glob:X.env.globals=mainGlobals
 blt:X.env.builtins=builtinsNs
 above:X.s₀.heap.objs.size<=X.env.locals
 inj:∀x y c,X.env.cells.lookup x=some c->X.env.cells.lookup y=some c->x=y
 has:∀x,(X.env.kindOf x=some .cell\/X.env.kindOf x=some .free)->∃c,X.env.cells.lookup x=some c
 cab:∀x c,X.fn x=true->X.env.cells.lookup x=some c->X.s₀.heap.objs.size<=c
 hd:X.calm=true->X.A.handled=none
 frames:X.A.frames=some X.stack
 stk:X.stack=X.outer\/(X.stack=X.env::X.outer/\X.env.frame=some X.env.locals)
 exf:∀b∈X.ex,b≠X.env.locals/\∀x c,X.env.cells.lookup x=some c->c≠b
 bs:∀b o,X.base.get? b=some o->X.s₀.heap.get? b=some o/\X.H₀ b=none
 bsz:X.base.objs.size<=X.s₀.heap.objs.size
 noex:∀b o,X.base.get? b=some o->b ∉ X.ex
 exfs:∀b∈X.ex,b ∉ X.fs
 funs:X.s₀.heap.FunFrames X.base X.outer
 frf:∀b∈X.fs,X.H₀ b=none
structure Inv(X:Cx)(Ac:LAObj)(σ:List (Option V))(H:Hp)(s:Shared):Prop where
 ok:X.Ok
 os:s.os=X.s₀.os
 bare:AllBare s.gens
 base:Un X.fs X.ex X.H₀ H X.s₀.heap s.heap
 loc:∃m,s.heap.Ns X.env.locals m/\∀(i:Nat) (x:Str) (v:V),X.N[i]?=some x->σ[i]?=some (some v)->UL X.env.scope x->∃u,RelV v u/\Ad1 X.env s.heap m x u
 cell:∀x c,X.env.cells.lookup x=some c->∃v,s.heap.IsCell c v
 free:H X.env.locals=none
 freeC:∀x c,X.env.cells.lookup x=some c->H c=none
 pin:∀p∈X.pn++Ac,s.heap.get? p.1=some p.2/\H p.1=none/\p.1≠X.env.locals/\p.1 ∉ X.fs/\∀v,p.2.data≠.cell v
 hok:L4 X.prog X.w H s.heap
 len:σ.length=X.N.length
section
variable{X:Cx}{Ac:LAObj}{σ:List (Option V)}{H H':Hp}{s:Shared}{h':Heap}
theorem Cx.Ok.nofr(ok:X.Ok){b:Addr}{o:Obj}(e:X.base.get? b=some o):b ∉ X.fs:=fun hb=>by
 have:=(ok.funs.mem hb).1;rw[e]at this;cases this
theorem Inv.bs(I:Inv X Ac σ H s):∀b o,X.base.get? b=some o->s.heap.get? b=some o/\H b=none:=fun b o e =>
 ⟨I.base.keep b o (I.ok.bs b o e).1 (I.ok.bs b o e).2 (I.ok.nofr e) (I.ok.noex b o e),I.base.free b o (I.ok.bs b o e).1 (I.ok.bs b o e).2 (I.ok.noex b o e)⟩
theorem Inv.bk(I:Inv X Ac σ H s):∀b o,X.base.get? b=some o->s.heap.get? b=some o:=fun b o e=>(I.bs b o e).1
theorem Inv.mod(I:Inv X Ac σ H s):Mod X.K X.mg X.base:=I.ok.mod
theorem Inv.kIn(I:Inv X Ac σ H s):X.K.In s.heap:=I.ok.mod.kin.keeps I.bk
theorem Inv.lt(I:Inv X Ac σ H s):X.env.locals<s.heap.objs.size:=let ⟨_,hn,_⟩:=I.loc;hn.lt
theorem Inv.sz(I:Inv X Ac σ H s):X.s₀.heap.objs.size<=s.heap.objs.size:=Nat.le_trans I.ok.above (Nat.le_of_lt I.lt)
theorem Inv.nofs(I:Inv X Ac σ H s){a:Addr}(h:s.heap.objs.size<=a):a ∉ X.fs:=fun hb=>by
 obtain⟨_,o,ho,_⟩:=I.ok.funs.mem hb;exact absurd (Nat.lt_of_lt_of_le (Heap.lt_size ho) (Nat.le_trans I.sz h)) (Nat.lt_irrefl _)
theorem Inv.cne(I:Inv X Ac σ H s):∀x c,X.env.cells.lookup x=some c->c≠X.env.locals:=fun x c e z=>by
 obtain⟨v,o,ho,hd⟩:=I.cell x c e;obtain⟨m,⟨o',es,ep,ho',hd',_⟩,_⟩:=I.loc;rw[z,ho']at ho;cases ho;rw[hd']at hd;cases hd
theorem Inv.funs(I:Inv X Ac σ H s):s.heap.FunFrames X.base X.outer:=by
 have all:∀(l:List Env),(∀b∈frs l,b∈X.fs)->X.s₀.heap.FunFrames X.base l->s.heap.FunFrames X.base l:=by
  intro l
  induction l with
  | nil=>intro _ _;trivial
  | cons env r ih =>
    intro hs hl;obtain⟨hk,⟨L,o,hf,hn,ho,hd⟩,hr⟩:=hl;have hL:L∈X.fs:=hs L (by unfold frs;rw[List.filterMap_cons,hf];exact List.mem_cons_self);obtain⟨sl,e⟩:=I.base.slot L o ho (I.ok.frf L hL) hL fun z=>I.ok.exfs L z hL;exact⟨hk,⟨L,_,hf,hn,e,hd⟩,ih (fun b hb=>hs b (by unfold frs;rw[List.filterMap_cons,hf];exact List.mem_cons_of_mem _ hb)) hr⟩
 exact all X.outer (fun _ hb=>hb) I.ok.funs
theorem Inv.stack(I:Inv X Ac σ H s):s.heap.FunFrames X.base X.stack:=by
 rcases I.ok.stk with e|⟨e,hf⟩
 . rw[e];exact I.funs
 . rw[e];obtain⟨m,hn,_⟩:=I.loc;refine .cons (by rw[I.ok.kind];decide) hf hn ?_ I.funs;exact Heap.get?_none_of_le (Nat.le_trans I.ok.bsz I.ok.above)
theorem Inv.stkSub(I:Inv X Ac σ H s):∀b∈frs X.stack,b∈X.env.locals::X.fs:=fun b hb=>by
 rcases I.ok.stk with e|⟨e,hf⟩
 . rw[e]at hb;exact List.mem_cons_of_mem _ hb
 . rw[e]at hb;unfold frs at hb;rw[List.filterMap_cons,hf]at hb;exact hb
theorem Inv.stkFree(I:Inv X Ac σ H s):∀b∈frs X.stack,H b=none:=fun b hb=>by
 rcases List.mem_cons.mp (I.stkSub b hb) with e | hb
 . rw[e];exact I.free
 . obtain⟨_,o,ho,_⟩:=I.ok.funs.mem hb;exact I.base.free b o ho (I.ok.frf b hb) fun z=>I.ok.exfs b z hb
theorem Inv.step{g':Array GenState}{t':Nat}{d':Drawn}{ch:List Addr}(I:Inv X Ac σ H s)
 (hch:∀b∈ch,(b∈X.ex\/X.s₀.heap.objs.size<=b)/\b≠X.env.locals/\(∀x c,X.env.cells.lookup x=some c->c≠b)/\∀p∈X.pn++Ac,p.1≠b)
 (keep:∀b o,b≠X.env.locals->b ∉ X.fs->b ∉ ch->s.heap.get? b=some o->H b=none->h'.get? b=some o)
 (slot:∀b o,b≠X.env.locals->b∈X.fs->b ∉ ch->s.heap.get? b=some o->H b=none->∃sl,h'.get? b=some { o with slots:=sl }) (free:∀b o,b ∉ ch->s.heap.get? b=some o->H b=none->H' b=none)
 (there:∀b o,b ∉ ch->s.heap.get? b=some o->∃o',h'.get? b=some o')
 (tups:∀b xs,H b=some (.tup xs)->H' b=some (.tup xs)) (frzs:∀b o u,H b=some (.frz o u)->H' b=some (.frz o u)) (tbls:∀b ps,H b=some (.tbl ps)->∃more,H' b=some (.tbl (ps++more)))
 (ns:∀m,s.heap.Ns X.env.locals m->h'.Ns X.env.locals m) (hok:L4 X.prog X.w H' h') (hg:AllBare g') :
 Inv X Ac σ H' { s with heap:=h',gens:=g',drawn:=d',toks:=t' }:=by
 have neL:∀b o,X.s₀.heap.get? b=some o->b≠X.env.locals:=fun b o e=>Nat.ne_of_lt (Nat.lt_of_lt_of_le (Heap.lt_size e) I.ok.above)
 have xF:∀b o,X.s₀.heap.get? b=some o->b ∉ X.ex->b ∉ ch:=fun b o e hx hb=>by
  rcases (hch b hb).1 with z | z
  . exact hx z
  . exact absurd (Nat.lt_of_lt_of_le (Heap.lt_size e) z) (Nat.lt_irrefl _)
 have cellK:∀x c,X.env.cells.lookup x=some c->∀v,s.heap.IsCell c v->h'.IsCell c v:=fun x c e v ⟨o,ho,hd⟩=>by
  have z7:c ∉ ch:=fun z=>(hch c z).2.2.1 x c e rfl;by_cases hc:c∈X.fs
  . obtain⟨sl,q⟩:=slot c o (I.cne x c e) hc z7 ho (I.freeC x c e);exact⟨_,q,hd⟩
  . exact⟨o,keep c o (I.cne x c e) hc z7 ho (I.freeC x c e),hd⟩
 refine⟨I.ok,I.os,hg,⟨fun b o e n hb hx=>?_,fun b o e n hb hx=>?_,fun b o e n hx=>?_,fun b o e hx=>?_,fun b xs e=>tups b xs (I.base.tups b xs e),fun b o xs e=>frzs b o xs (I.base.frzs b o xs e),fun b ps e=>?_⟩,?_,fun x c e=>?_,?_,fun x c e=>?_,fun p hp=>?_,hok,I.len⟩
 . exact keep b o (neL b o e) hb (xF b o e hx) (I.base.keep b o e n hb hx) (I.base.free b o e n hx)
 . obtain⟨sl,e1⟩:=I.base.slot b o e n hb hx;obtain⟨sl',e2⟩:=slot b _ (neL b o e) hb (xF b o e hx) e1 (I.base.free b o e n hx);exact⟨sl',e2⟩
 . obtain⟨o',e1⟩:=I.base.there b o e hx;exact free b o' (xF b o e hx) e1 (I.base.free b o e n hx)
 . obtain⟨o',e1⟩:=I.base.there b o e hx;exact there b o' (xF b o e hx) e1
 . obtain⟨m1,e1⟩:=I.base.tbls b ps e;obtain⟨m2,e2⟩:=tbls b _ e1;exact⟨m1++m2,by rw[e2,Array.append_assoc]⟩
 . obtain⟨m,hn,hl⟩:=I.loc;refine⟨m,ns m hn,fun i x v e1 e2 e3=>?_⟩;obtain⟨u,r,l⟩:=hl i x v e1 e2 e3;refine⟨u,r,?_⟩;rcases l with l|⟨k,c,e,z⟩
   . exact .inl l
   . exact .inr ⟨k,c,e,cellK x c e _ z⟩
 . obtain⟨v,z⟩:=I.cell x c e;exact⟨v,cellK x c e v z⟩
 . obtain⟨m,⟨o,_,_,ho,_⟩,_⟩:=I.loc;exact free _ o (fun z=>(hch _ z).2.1 rfl) ho I.free
 . obtain⟨v,o,ho,hd⟩:=I.cell x c e;exact free c o (fun z=>(hch c z).2.2.1 x c e rfl) ho (I.freeC x c e)
 . obtain⟨e,n,ne,nf,d⟩:=I.pin p hp;have z7:p.1 ∉ ch:=fun z=>(hch p.1 z).2.2.2 p hp rfl;exact⟨keep p.1 p.2 ne nf z7 e n,free p.1 p.2 z7 e n,ne,nf,d⟩
theorem Inv.un{t':Nat}(I:Inv X Ac σ H s)(u:Un X.fs [] H H' s.heap h')(hok:L4 X.prog X.w H' h'):Inv X Ac σ H' { s with heap:=h',toks:=t' }:=by
 obtain⟨m,⟨o,es,ep,ho,r⟩,_⟩:=id I.loc;obtain⟨sl,hL⟩:=u.any ho I.free (by simp)
 exact I.step (g':=s.gens) (d':=s.drawn) (ch:=[]) (fun _ z=>nomatch z) (fun b o _ hb _ e n=>u.keep b o e n hb (by simp)) (fun b o _ hb _ e n=>u.slot b o e n hb (by simp)) (fun b o _ e n=>u.free b o e n (by simp)) (fun b o _ e=>u.there b o e (by simp)) u.tups u.frzs u.tbls (fun m' hm=>by
  obtain⟨o',es',QW,ho',r'⟩:=hm;rw[ho]at ho';cases ho';exact⟨_,es',QW,hL,r'⟩) hok I.bare
theorem Inv.call{g':Array GenState}{t':Nat}{d':Drawn}{ch:List Addr}(I:Inv X Ac σ H s)(u:Un (frs X.stack) ch H H' s.heap h')(hok:L4 X.prog X.w H' h')(hg:AllBare g')
 (hch:∀b∈ch,(b∈X.ex\/X.s₀.heap.objs.size<=b)/\b≠X.env.locals/\(∀x c,X.env.cells.lookup x=some c->c≠b)/\∀p∈X.pn++Ac,p.1≠b) :
 Inv X Ac σ H' { s with heap:=h',gens:=g',drawn:=d',toks:=t' }:=by
 obtain⟨m,⟨o,es,ep,ho,r⟩,_⟩:=id I.loc;obtain⟨sl,hL⟩:=u.any ho I.free fun z=>(hch _ z).2.1 rfl
 exact I.step (ch:=ch) hch (fun b o hL hb hc e n=>u.keep b o e n (fun z=>(List.mem_cons.mp (I.stkSub b z)).elim hL hb) hc) (fun b o _ _ hc e n=>u.any e n hc) (fun b o hc e n=>u.free b o e n hc) (fun b o hc e=>u.there b o e hc) u.tups u.frzs u.tbls (fun m' hm=>by
  obtain⟨o',es',QW,ho',r'⟩:=hm;rw[ho]at ho';cases ho';exact⟨_,es',QW,hL,r'⟩) hok hg
theorem Inv.turned{t':Nat}{it:Addr}(I:Inv X Ac σ H s)(k:∀b o,b≠it->s.heap.get? b=some o->h'.get? b=some o)(hn:H it=none)(hL:it≠X.env.locals)
 (h1:it∈X.ex\/X.s₀.heap.objs.size<=it) (h2:∀x c,X.env.cells.lookup x=some c->c≠it) (h3:∀p∈X.pn++Ac,p.1≠it):Inv X Ac σ H { s with heap:=h',toks:=t' }:=by
 have nit:∀b u,H b=some u->b≠it:=fun b u e z=>by rw[z,hn]at e;cases e
 refine I.step (g':=s.gens) (d':=s.drawn) (ch:=[it]) (fun b hb=>?_) (fun b o _ _ hc e _=>k b o (fun z=>hc (by simp[z])) e) (fun b o _ _ hc e _=>⟨o.slots,k b o (fun z=>hc (by simp[z])) e⟩) (fun _ _ _ _ n=>n)
  (fun b o hc e=>⟨o,k b o (fun z=>hc (by simp[z])) e⟩) (fun _ _ e=>e) (fun _ _ _ e=>e) (fun b ps e=>⟨#[],by rw[e];simp⟩) (fun m hm=>?_) (fun b u e=>?_) I.bare
 . have e:b=it:=by simpa using hb
   subst e;exact⟨h1,hL,h2,h3⟩
 . obtain⟨o,es,ep,ho,r⟩:=hm;exact⟨o,es,ep,k _ o (Ne.symm hL) ho,r⟩
 . refine(I.hok b u e).stay (fun c v hc q=>k c v ?_ q) (fun _ q=>q) fun _ _ q=>q;rcases hc with z | z
   . rw[z];exact nit b u e
   . exact nit c _ z
theorem Inv.tok(I:Inv X Ac σ H s)(t:Nat):Inv X Ac σ H { s with toks:=t }:=I.un (h':=s.heap) (t':=t) Un.refl I.hok
theorem Inv.kept{t':Nat}(I:Inv X Ac σ H s)(k:∀b u,s.heap.get? b=some u->h'.get? b=some u):Inv X Ac σ H { s with heap:=h',toks:=t' }:=I.un (Un.kept k) (I.hok.kept k)
theorem Inv.laid{a:Addr}{o:HO}{t':Nat}(I:Inv X Ac σ H s)(k:∀b u,s.heap.get? b=some u->h'.get? b=some u)(hp:s.heap.objs.size<=a)(new:ObjOk X.prog X.w (upd H a o) h' a o) :
 Inv X Ac σ (upd H a o) { s with heap:=h',toks:=t' }:=I.un (Un.laid k hp (I.hok.fresh hp)) (I.hok.laid k hp new)
theorem Inv.write{x e:Addr}{o:HO}{t':Nat}(I:Inv X Ac σ H s)(mu:Mut (H x))(he:e=x\/H e=some (.own x))(k:∀b u,b≠e->s.heap.get? b=some u->h'.get? b=some u)(UH:∃u,h'.get? e=some u)
 (new:ObjOk X.prog X.w (upd H x o) h' x o):Inv X Ac σ (upd H x o) { s with heap:=h',toks:=t' }:=I.un (Un.write mu he k UH) (I.hok.write mu he k UH new)
theorem Inv.pins_of{QM:LAObj}(I:Inv X Ac σ H s)(h:∀p∈QM,s.heap.get? p.1=some p.2/\H p.1=none/\p.1≠X.env.locals/\p.1 ∉ X.fs/\∀v,p.2.data≠.cell v):Inv X QM σ H s :=
 ⟨I.ok,I.os,I.bare,I.base,I.loc,I.cell,I.free,I.freeC,fun p hp=>(List.mem_append.mp hp).elim (fun z=>I.pin p (List.mem_append_left _ z)) (h p),I.hok,I.len⟩
theorem Wg{N:List Str}(hN:N.Nodup){i j:Nat}{x:Str}(a:N[i]?=some x)(b:N[j]?=some x):i=j:=by
 obtain⟨h1,e1⟩:=List.getElem?_eq_some_iff.mp a;obtain⟨h2,e2⟩:=List.getElem?_eq_some_iff.mp b;exact(List.getElem_inj hN).mp (e1.trans e2.symm)
theorem Rh{M:Model}{A:Around}{E:Value->Shared->Prop}{i:Nat}{x:Str}{v:V}{u:Value}{Q:Unit->Shared->Prop}(I:Inv X Ac σ H s)(hN:X.N.Nodup)(hi:X.N[i]?=some x)(hx:qH X.env.scope x)(r:RelV v u)
 (h:∀s',Inv X Ac (σ.set i (some v)) H s'->(∃a,Heap.SameBut a s.heap s'.heap/\(a=X.env.locals\/X.env.cells.lookup x=some a))->Q () s') (hf:X.fn x=true\/X.env.scope.names.lookup x=some .local:=by first | exact .inl rfl | exact .inr rfl | assumption):wpAny M A (storeName X.env x u) Q E s:=by
 obtain⟨m,hn,hl⟩:=id I.loc;have hcls:(X.env.scope.kind==.class || (X.env.scope.kind==.module&&X.env.locals != X.env.globals))=false:=by rw[I.ok.kind];rfl
 have hiσ:i<σ.length:=by rw[I.len];exact(List.getElem?_eq_some_iff.mp hi).1
 have cne:=I.cne
 have tracked:∀{a:Addr}{h':Heap},(∃o,s.heap.get? a=some o/\H a=none)->Heap.SameBut a s.heap h'->L4 X.prog X.w H h':=fun {a h'} ha hs b ob e=>by
  obtain⟨_,_,hfree⟩:=ha;refine(I.hok b ob e).stay (fun c w' hc q=>(hs.2 c ?_).trans q) (fun _ q=>q) fun _ _ q=>q;rintro rfl;rcases hc with rfl | hc
  . rw[hfree]at e;cases e
  . rw[hfree]at hc;cases hc
 rcases hx with hk | hk
 . refine wpAny_storeName_local hk hn (fun h' hn' hs=>?_) hcls;obtain⟨oL,_,_,hoL,_⟩:=id hn;refine h _ ⟨I.ok,I.os,I.bare,⟨fun b o e n hb hx=>?_,fun b o e n hb hx=>?_,I.base.free,fun b o e hx=>?_,I.base.tups,I.base.frzs,I.base.tbls⟩,⟨_,hn',fun j y v' e1 e2 e3=>?_⟩,fun y c e=>?_,I.free,I.freeC,fun p hp=>?_,tracked ⟨oL,hoL,I.free⟩ hs,by simpa using I.len⟩ ⟨_,hs,.inl rfl⟩
   . exact(hs.2 b (Nat.ne_of_lt (Nat.lt_of_lt_of_le (Heap.lt_size e) I.ok.above))).trans (I.base.keep b o e n hb hx)
   . obtain⟨sl,e1⟩:=I.base.slot b o e n hb hx;exact⟨sl,(hs.2 b (Nat.ne_of_lt (Nat.lt_of_lt_of_le (Heap.lt_size e) I.ok.above))).trans e1⟩
   . obtain⟨o',e1⟩:=I.base.there b o e hx;exact⟨o',(hs.2 b (Nat.ne_of_lt (Nat.lt_of_lt_of_le (Heap.lt_size e) I.ok.above))).trans e1⟩
   . by_cases hj:j=i
     . subst hj;rw[hi]at e1;cases e1;rw[List.getElem?_set_self hiσ]at e2;cases e2;exact⟨u,r,.inl ⟨hk,by simp⟩⟩
     . rw[List.getElem?_set_ne (Ne.symm hj)]at e2;obtain⟨u',r',q⟩:=hl j y v' e1 e2 e3;refine⟨u',r',?_⟩;rcases q with⟨k,e⟩|⟨k,c,e,z⟩
       . refine .inl ⟨k,?_⟩;have:y≠x:=fun e=>hj (Wg hN e1 (e▸hi));simp[this,e]
       . exact .inr ⟨k,c,e,z.sameBut hs (cne y c e)⟩
   . obtain⟨w',z⟩:=I.cell y c e;exact⟨w',z.sameBut hs (cne y c e)⟩
   . obtain⟨e,n,ne,nf,d⟩:=I.pin p hp;exact⟨(hs.2 p.1 ne).trans e,n,ne,nf,d⟩
 . have hfn:X.fn x=true:=by
    rcases hf with z | z
    . exact z
    . rw[z]at hk;cases hk
   obtain⟨c,hc⟩:=I.ok.has x (.inl hk);obtain⟨w',z⟩:=I.cell x c hc;refine wpAny_storeName_cell I.ok.kind hk hc z (fun h' hc' hs=>?_);obtain⟨oc,hoc,ZI⟩:=id z;refine h { s with heap:=h' } ⟨I.ok,I.os,I.bare,⟨fun b o e n hb hx=>?_,fun b o e n hb hx=>?_,I.base.free,fun b o e hx=>?_,I.base.tups,I.base.frzs,I.base.tbls⟩,⟨m,hn.sameBut hs (Ne.symm (cne x c hc)),fun j y v' e1 e2 e3=>?_⟩,fun y c' e=>?_,I.free,I.freeC,fun p hp=>?_,tracked ⟨oc,hoc,I.freeC x c hc⟩ hs,by simpa using I.len⟩ ⟨c,hs,.inr hc⟩
   . exact(hs.2 b (Nat.ne_of_lt (Nat.lt_of_lt_of_le (Heap.lt_size e) (I.ok.cab x c hfn hc)))).trans (I.base.keep b o e n hb hx)
   . obtain⟨sl,e1⟩:=I.base.slot b o e n hb hx;exact⟨sl,(hs.2 b (Nat.ne_of_lt (Nat.lt_of_lt_of_le (Heap.lt_size e) (I.ok.cab x c hfn hc)))).trans e1⟩
   . obtain⟨o',e1⟩:=I.base.there b o e hx;exact⟨o',(hs.2 b (Nat.ne_of_lt (Nat.lt_of_lt_of_le (Heap.lt_size e) (I.ok.cab x c hfn hc)))).trans e1⟩
   . by_cases hj:j=i
     . subst hj;rw[hi]at e1;cases e1;rw[List.getElem?_set_self hiσ]at e2;cases e2;exact⟨u,r,.inr ⟨.inl hk,c,hc,hc'⟩⟩
     . rw[List.getElem?_set_ne (Ne.symm hj)]at e2;obtain⟨u',r',q⟩:=hl j y v' e1 e2 e3;refine⟨u',r',?_⟩;rcases q with q|⟨k,c',e,z'⟩
       . exact .inl q
       . refine .inr ⟨k,c',e,z'.sameBut hs ?_⟩;rintro rfl;exact hj (Wg hN e1 (I.ok.inj _ _ _ e hc▸hi))
   . by_cases hcc:c'=c
     . subst hcc;exact⟨_,hc'⟩
     . obtain⟨w2,z2⟩:=I.cell y c' e;exact⟨w2,z2.sameBut hs hcc⟩
   . obtain⟨e,n,ne,nf,d⟩:=I.pin p hp;refine⟨(hs.2 p.1 ?_).trans e,n,ne,nf,d⟩;intro q;rw[q,hoc]at e;have q':oc=p.2:=Option.some.inj e;exact d w' (by rw[←q'];exact ZI)
theorem P5{M:Model}{A:Around}{E:Value->Shared->Prop}{i:Nat}{x:Str}{v:V}{u:Value}{Q:Unit->Shared->Prop}(I:Inv X Ac σ H s)(hN:X.N.Nodup)(hi:X.N[i]?=some x)(hx:qH X.env.scope x)(r:RelV v u)
 (h:∀s',Inv X Ac (σ.set i (some v)) H s'->Q () s') (hf:X.fn x=true\/X.env.scope.names.lookup x=some .local:=by first | exact .inl rfl | exact .inr rfl | assumption):wpAny M A (storeName X.env x u) Q E s :=
 Rh I hN hi hx r (fun s' I' _=>h s' I') hf
theorem Inv.call'{s':Shared}{ch:List Addr}(I:Inv X Ac σ H s)(ho:s'.os=s.os)(u:Un (frs X.stack) ch H H' s.heap s'.heap)(hok:L4 X.prog X.w H' s'.heap)(hg:AllBare s'.gens)
 (hch:∀b∈ch,(b∈X.ex\/X.s₀.heap.objs.size<=b)/\b≠X.env.locals/\(∀x c,X.env.cells.lookup x=some c->c≠b)/\∀p∈X.pn++Ac,p.1≠b):Inv X Ac σ H' s':=by
 obtain⟨h',g',d',t',o'⟩:=s';have e:o'=s.os:=ho;subst e;exact I.call (g':=g') (t':=t') (d':=d') u hok hg hch
end
abbrev XK:=Value->OAddr->Hp->Prop
abbrev St:=List (Option V)
abbrev VK:=V->Hp->Prop
abbrev TE:=St->Hp->VK->Prop
abbrev TT:=St->Hp->(Bool->Hp->Prop)->Prop
abbrev TA:=St->Hp->(List V->Hp->Prop)->Prop
structure Ends where
 nx:St->Hp->Prop
 rt:VK
 bk:St->Hp->Prop:=fun _ _=>False
 ct:St->Hp->Prop:=fun _ _=>False
abbrev TS:=Ends->St->Hp->Prop
def EP(X:Cx)(Ac:LAObj)(σ:St)(Q:VK)(u:Value)(s':Shared):Prop:=∃v H',Inv X Ac σ H' s'/\RelV v u/\Q v H'
def TP(X:Cx)(Ac:LAObj)(σ:St)(Q:Bool->Hp->Prop)(b:Bool)(s':Shared):Prop:=∃H',Inv X Ac σ H' s'/\Q b H'
def AP(X:Cx)(Ac:LAObj)(σ:St)(Q:List V->Hp->Prop)(us:List Value)(s':Shared):Prop:=∃vs H',Inv X Ac σ H' s'/\Vals vs us/\Q vs H'
def SP(X:Cx)(Ac:LAObj)(D:Ends)(f:Flow)(s':Shared):Prop :=
 match f with
 | .next=>∃σ' H',Inv X Ac σ' H' s'/\D.nx σ' H'
 | .brk=>∃σ' H',Inv X Ac σ' H' s'/\D.bk σ' H'
 | .cont=>∃σ' H',Inv X Ac σ' H' s'/\D.ct σ' H'
 | .ret u=>∃v σ' H',Inv X Ac σ' H' s'/\RelV v u/\D.rt v H'
def PE(X:Cx)(e:Expr)(t:TE):Prop :=
 ∀(Ac:LAObj) (s:Shared) (σ:St) (H:Hp) (Q:VK),Inv X Ac σ H s->t σ H Q->wpAny (model X.prog X.w) X.A (eval e X.env) (EP X Ac σ Q) X.xe s
def PT(X:Cx)(e:Expr)(t:TT):Prop :=
 ∀(Ac:LAObj) (s:Shared) (σ:St) (H:Hp) (Q:Bool->Hp->Prop),Inv X Ac σ H s->t σ H Q->wpAny (model X.prog X.w) X.A (isTrue e X.env (eval e X.env)) (TP X Ac σ Q) X.xe s
def PW(X:Cx)(e:Expr)(t:TT):Prop :=
 ∀(whole:Sem Value) (Ac:LAObj) (s:Shared) (σ:St) (H:Hp) (Q:Bool->Hp->Prop),Inv X Ac σ H s->t σ H Q->wpAny (model X.prog X.w) X.A (isTrue e X.env whole) (TP X Ac σ Q) X.xe s
theorem PW.pt{X:Cx}{e:Expr}{t:TT}(h:PW X e t):PT X e t:=h _
def PA(X:Cx)(es:List Expr)(t:TA):Prop :=
 ∀(pos:Pos) (Ac:LAObj) (s:Shared) (σ:St) (H:Hp) (Q:List V->Hp->Prop),Inv X Ac σ H s->t σ H Q->wpAny (model X.prog X.w) X.A (spliced (backTo pos (starEach es X.env))) (AP X Ac σ Q) X.xe s
def PS(X:Cx)(st:Stmt)(t:TS):Prop :=
 ∀(Ac:LAObj) (s:Shared) (σ:St) (H:Hp) (D:Ends),Inv X Ac σ H s->t D σ H->wpAny (model X.prog X.w) X.A (exec st X.env) (SP X Ac D) X.xe s
def BB(X:Cx)(st:List Stmt)(t:TS):Prop :=
 ∀(Ac:LAObj) (s:Shared) (σ:St) (H:Hp) (D:Ends),Inv X Ac σ H s->t D σ H->wpAny (model X.prog X.w) X.A (execs st X.env) (SP X Ac D) X.xe s
theorem Bu{α:Type}{t:Sem α}{Q Q':α->Shared->Prop}{M:Model}{A:Around}{E:Value->Shared->Prop}{s:Shared}(h:wpAny M A t Q E s)(hQ:∀a s,Q a s->Q' a s):wpAny M A t Q' E s:=wpAny_mono h hQ fun _ _ x=>x
section
variable{X:Cx}
theorem bin{a b:Expr}{ta tb:TE}(ha:PE X a ta)(hb:PE X b tb){Ac:LAObj}{s:Shared}{σ:St}{H:Hp}{R:V->V->Hp->Prop}(I:Inv X Ac σ H s)(h:ta σ H fun x H1=>tb σ H1 fun y H2=>R x y H2)
 {α:Type}{Q:α->Shared->Prop}{f:Value->Value->Sem α}
 (hf:∀v u s2 x y H2,Inv X Ac σ H2 s2->RelV x v->RelV y u->R x y H2->wpAny (model X.prog X.w) X.A (f v u) Q X.xe s2) :
 wpAny (model X.prog X.w) X.A (eval a X.env) (fun v s₁=>wpAny (model X.prog X.w) X.A (eval b X.env) (fun u s₂=>wpAny (model X.prog X.w) X.A (f v u) Q X.xe s₂) X.xe s₁) X.xe s:=by
 refine Bu (ha Ac s σ H _ I h) fun v s1 ⟨x,H1,I1,r1,q1⟩=>?_;refine Bu (hb Ac s1 σ H1 _ I1 q1) fun u s2 ⟨y,H2,I2,r2,q2⟩=>?_;exact hf v u s2 x y H2 I2 r1 r2 q2
def UO(i:Nat):TE:=fun σ H Q=>∃v,σ[i]?=some (some v)/\Q v H
def tC(v:V):TE:=fun _ H Q=>Q v H
theorem rX{i:Nat}{x:Str}{pos:Pos}(hN:X.N[i]?=some x)(hv:UL X.env.scope x)(hd:(x==("__debug__":Str))=false:=by decide)(hcd:(x==("__classdict__":Str))=false:=by decide):PE X (.Name x pos) (UO i):=by
 intro Ac s σ H Q I h;obtain⟨v,e,h⟩:=h;obtain⟨m,hn,hl⟩:=I.loc;obtain⟨u,r,l⟩:=hl i x v hN e hv;have fin:EP X Ac σ Q u s:=⟨v,H,I,r,h⟩
 rcases l with⟨hk,hm⟩|⟨hk,c,hc,hcell⟩
 . exact wpAny_Name (wpAny_loadName_local I.ok.kind hk hn hm fin) hd
 . rcases hk with hk | hk
   . exact wpAny_Name (wpAny_loadName_cell I.ok.kind hk hc hcell fin) hd
   . exact wpAny_Name (wpAny_loadName_free I.ok.kind hk hc hcell fin hcd) hd
theorem Aj{i j pos}:PE X (.Constant (.int i) j pos) (tC (.int i)):=fun _ _ _ H _ I h=>wpAny_Constant_int ⟨.int i,H,I.tok _,⟨_,rfl⟩,h⟩
theorem Cc{b j pos}:PE X (.Constant (.bool b) j pos) (tC (.bl b)):=fun _ _ _ H _ I h=>Constant_bool ⟨.bl b,H,I,rfl,h⟩
theorem Cu{j pos}:PE X (.Constant .none j pos) (tC .non):=fun _ _ _ H _ I h=>Constant_none ⟨.non,H,I,rfl,h⟩
theorem V0{x j pos}:PE X (.Constant (.str x) j pos) (tC (.str x)):=fun _ _ _ H _ I h=>Calls.Constant_str ⟨.str x,H,I.tok _,⟨_,rfl⟩,h⟩
def Gl(X:Cx)(x:Str):Prop:=X.env.kindOf x=some .globalImplicit
theorem Gf{E:Value->Shared->Prop}{Ac:LAObj}{s:Shared}{σ:St}{H:Hp}{x:Str}{u:Value}{pos:Pos}{Q:Value->Shared->Prop}(I:Inv X Ac σ H s)(hg:Gl X x)(hm:X.mg x=some u)(h:Q u s)
 (hd:(x==("__debug__":Str))=false:=by decide):wpAny (model X.prog X.w) X.A (eval (.Name x pos) X.env) Q E s :=
 Calls.Name_function_global I.ok.kind hg (Calls.loadGlobal_global (by rw[I.ok.glob];exact I.mod.glob.keeps I.bk) hm h) hd
theorem Ja{E:Value->Shared->Prop}{Ac:LAObj}{s:Shared}{σ:St}{H:Hp}{x:Str}{u:Value}{pos:Pos}{Q:Value->Shared->Prop}(I:Inv X Ac σ H s)(hg:Gl X x)(hm:X.mg x=none)(hv:bootBuiltins x=some u)(h:Q u s)
 (hn:x≠"__name__":=by decide) (hd:(x==("__debug__":Str))=false:=by decide):wpAny (model X.prog X.w) X.A (eval (.Name x pos) X.env) Q E s:=by
 obtain⟨mb,h1,h2⟩:=I.mod.blt;exact Calls.Name_function_global I.ok.kind hg (Calls.loadGlobal_builtin (by rw[I.ok.glob];exact I.mod.glob.keeps I.bk) hm (by rw[I.ok.blt];exact h1.keeps I.bk) ((h2 x hn).trans hv) h) hd
theorem Qc{x:Str}{v:V}{u:Value}{pos:Pos}(hg:Gl X x)(hm:X.mg x=some u)(r:RelV v u)(hd:(x==("__debug__":Str))=false:=by decide):PE X (.Name x pos) (tC v) :=
 fun _ _ _ H _ I h=>Gf I hg hm ⟨v,H,I,r,h⟩ hd
theorem Ge{x:Str}{v:V}{u:Value}{pos:Pos}(hg:Gl X x)(hm:X.mg x=none)(hv:bootBuiltins x=some u)(r:RelV v u)(hn:x≠"__name__":=by decide)(hd:(x==("__debug__":Str))=false:=by decide):PE X (.Name x pos) (tC v) :=
 fun _ _ _ H _ I h=>Ja I hg hm hv ⟨v,H,I,r,h⟩ hn hd
variable{a b:Expr}{ta tb:TE}{pos:Pos}
def PC(X:Cx)(op:CmpOp)(a b:Expr)(t:TE):Prop :=
 ∀(Ac:LAObj) (s:Shared) (σ:St) (H:Hp) (Q:VK),Inv X Ac σ H s->t σ H Q →
   wpAny (model X.prog X.w) X.A (eval a X.env) (fun v s₁=>wpAny (model X.prog X.w) X.A (eval b X.env) (fun u s₂=>wpAny (model X.prog X.w) X.A (compareOp op v u) (EP X Ac σ Q) X.xe s₂) X.xe s₁) X.xe s
theorem MC(b:Expr){op:CmpOp}(h:op≠.In)(h2:op≠.NotIn):behindInMarks op b=false:=by
 have e1:(op==CmpOp.In)=false:=by cases op<;>first | rfl | exact absurd rfl h
 have e2:(op==CmpOp.NotIn)=false:=by cases op<;>first | rfl | exact absurd rfl h2
 cases b<;>simp[behindInMarks,e1,e2]
def tB(t:TE):TT:=fun σ H Q=>t σ H fun x H1=>∃c,x=.bl c/\Q c H1
theorem YR{op:CmpOp}{t:TE}(h:PC X op a b t)(h1:behindInMarks op b=false:=by first | exact MC _ (by decide) (by decide) | rfl):PT X (.Compare a [op] [b] pos) (tB t):=by
 intro Ac s σ H Q I hw;refine wpAny_isTrue_Compare1 (Bu (h Ac s σ H _ I hw) fun v s1 h1=>Bu h1 fun u s2 h2=>Bu h2 fun c s3 ⟨x,H1,I1,r1,q1⟩=>?_) h1;obtain⟨d,rfl,q⟩:=q1;cases r1;exact wpAny_truthy_bool ⟨H1,I1,q⟩
theorem B0{e:Expr}{t:TE}(h:PE X e t)(he:∀whole,isTrue e X.env whole=(do let v ←whole;standAt e.pos;holding [v] (truthy v)):=by intro _;rfl):PT X e (tB t):=by
 intro Ac s σ H Q I hw;refine isTrue_plain (Bu (h Ac s σ H _ I hw) fun v s1 ⟨x,H1,I1,r1,q1⟩=>?_) (he _);obtain⟨d,rfl,q⟩:=q1;cases r1;exact wpAny_truthy_bool ⟨H1,I1,q⟩
variable{tA xC:TT}{rest:List Expr}
def yM(t u:TT):TT:=fun σ H Q=>t σ H fun c H1=>if c=true then u σ H1 Q else Q false H1
def tOr(t u:TT):TT:=fun σ H Q=>t σ H fun c H1=>if c=true then Q true H1 else u σ H1 Q
def yK(t:TT):TT:=fun σ H Q=>t σ H fun c H1=>Q (!c) H1
theorem Ig(ha:PT X a tA):PW X (.BoolOp .And [a] pos) tA:=by
 intro wh Ac s σ H Q I h;refine isTrue_and (Bu (ha Ac s σ H Q I h) fun c s1 e=>?_);cases c with
 | true=>exact isTrue_and_nil e
 | false=>exact e
theorem G9(ha:PT X a tA):PW X (.BoolOp .Or [a] pos) tA:=by
 intro wh Ac s σ H Q I h;refine isTrue_or (Bu (ha Ac s σ H Q I h) fun c s1 e=>?_);cases c with
 | false=>exact isTrue_or_nil e
 | true=>exact e
theorem Kl(ha:PT X a tA)(hb:PW X (.BoolOp .And (b::rest) pos) xC):PW X (.BoolOp .And (a::b::rest) pos) (yM tA xC):=by
 intro wh Ac s σ H Q I h;refine isTrue_and (Bu (ha Ac s σ H _ I h) fun c s1 ⟨H1,I1,q1⟩=>?_);cases c with
 | true=>exact hb wh Ac s1 σ H1 Q I1 q1
 | false=>exact⟨H1,I1,q1⟩
theorem Ha(ha:PT X a tA)(hb:PW X (.BoolOp .Or (b::rest) pos) xC):PW X (.BoolOp .Or (a::b::rest) pos) (tOr tA xC):=by
 intro wh Ac s σ H Q I h;refine isTrue_or (Bu (ha Ac s σ H _ I h) fun c s1 ⟨H1,I1,q1⟩=>?_);cases c with
 | true=>exact⟨H1,I1,q1⟩
 | false=>exact hb wh Ac s1 σ H1 Q I1 q1
theorem B3(ha:PT X a tA):PT X (.UnaryOp .Not a pos) (yK tA):=by
 intro Ac s σ H Q I h;exact isTrue_not (ha Ac s σ H (fun c H1=>Q (!c) H1) I h)
def uV(ta tb:TE):TE:=fun σ H Q=>ta σ H fun x H1=>∃c,x=.bl c/\if c=true then tb σ H1 Q else Q (.bl false) H1
def YJ(ta tb:TE):TE:=fun σ H Q=>ta σ H fun x H1=>∃c,x=.bl c/\if c=true then Q (.bl true) H1 else tb σ H1 Q
def uR(ta:TE):TE:=fun σ H Q=>ta σ H fun x H1=>∃c,x=.bl c/\Q (.bl (!c)) H1
theorem Hc{op}{t:TE}(h:PE X a t):PE X (.BoolOp op [a] pos) t:=fun Ac s σ H Q I hw=>BoolOp_one (h Ac s σ H Q I hw)
theorem Ix(ha:PE X a ta)(hb:PE X (.BoolOp .And (b::rest) pos) tb):PE X (.BoolOp .And (a::b::rest) pos) (uV ta tb):=by
 intro Ac s σ H Q I h;refine BoolOp_and (Bu (ha Ac s σ H _ I h) fun v s1 ⟨x,H1,I1,r1,q1⟩=>?_);obtain⟨c,rfl,q1⟩:=q1;cases r1;refine wpAny_truthy_bool ?_;cases c with
 | true=>exact hb Ac s1 σ H1 Q I1 q1
 | false=>exact⟨.bl false,H1,I1,rfl,q1⟩
theorem qN(ha:PE X a ta)(hb:PE X (.BoolOp .Or (b::rest) pos) tb):PE X (.BoolOp .Or (a::b::rest) pos) (YJ ta tb):=by
 intro Ac s σ H Q I h;refine BoolOp_or (Bu (ha Ac s σ H _ I h) fun v s1 ⟨x,H1,I1,r1,q1⟩=>?_);obtain⟨c,rfl,q1⟩:=q1;cases r1;refine wpAny_truthy_bool ?_;cases c with
 | false=>exact hb Ac s1 σ H1 Q I1 q1
 | true=>exact⟨.bl true,H1,I1,rfl,q1⟩
theorem LK(ha:PE X a ta):PE X (.UnaryOp .Not a pos) (uR ta):=by
 intro Ac s σ H Q I h;refine UnaryOp_ (Bu (ha Ac s σ H _ I h) fun v s1 ⟨x,H1,I1,r1,q1⟩=>?_);obtain⟨c,rfl,q1⟩:=q1;cases r1;exact not_of (wpAny_truthy_bool ⟨.bl (!c),H1,I1,rfl,q1⟩)
def tIf(t:TT)(ta tb:TE):TE:=fun σ H Q=>t σ H fun c H1=>if c=true then ta σ H1 Q else tb σ H1 Q
theorem bO{c:Expr}(hc:PT X c tA)(ha:PE X a ta)(hb:PE X b tb):PE X (.IfExp c a b pos) (tIf tA ta tb):=by
 intro Ac s σ H Q I h;refine wpAny_IfExp (Bu (hc Ac s σ H _ I h) fun d s1 ⟨H1,I1,q1⟩=>?_);cases d with
 | true=>exact ha Ac s1 σ H1 Q I1 q1
 | false=>exact hb Ac s1 σ H1 Q I1 q1
end
def SqL(K:W.Frag)(H:Hp)(a:Addr)(xs:List V):Prop :=
 Rd H a (.lst xs) ∨
  ∃(o:Obj) (its:Array Value) (n:Nat),K.lookup a=some o/\o.cls=.type "list"/\o.dict=none/\o.data=.seq its n/\its.size<=sizeLine/\Vals xs its.toList
def Dw(K:W.Frag)(H:Hp)(a:Addr)(xs:List V):Prop :=
 Rd H a (.tup xs) ∨
  ∃(o:Obj) (its:Array Value) (n:Nat),K.lookup a=some o/\o.cls=.type "tuple"/\o.dict=none/\o.data=.seq its n/\its.size<=sizeLine/\Vals xs its.toList
def Ac6:Value->Option V
 | .none=>some .non
 | .bool b=>some (.bl b)
 | .int i _=>some (.int i)
 | .str x _=>some (.str x)
 | .bytes b _=>some (.byt b)
 | .float b _=>some (.flt b)
 | .ref a=>some (.ref a)
 | .type n=>some (.ty n)
 | _=>none
theorem RelV.abs{x:V}{u:Value}(r:RelV x u):Ac6 u=some x:=by
 cases x with
 | non=>cases r;rfl
 | bl _=>cases r;rfl
 | int _=>obtain⟨t,rfl⟩:=r;rfl
 | str _=>obtain⟨t,rfl⟩:=r;rfl
 | byt _=>obtain⟨t,rfl⟩:=r;rfl
 | flt _=>obtain⟨t,rfl⟩:=r;rfl
 | ref _=>cases r;rfl
 | ty _=>cases r;rfl
theorem RelV.inj{x y:V}{u:Value}(r:RelV x u)(q:RelV y u):x=y:=Option.some.inj (r.abs.symm.trans q.abs)
theorem Vals.inj:∀{xs ys:List V}{us:List Value},Vals xs us->Vals ys us->xs=ys
 | _,_,_,.nil,.nil=>rfl
 | _,_,_,.cons r t,.cons r' t'=>by rw[r.inj r',Vals.inj t t']
section
variable{X:Cx}{Ac:LAObj}{σ:St}{H:Hp}{s:Shared}{a:Addr}{xs ys:List V}
theorem SqL.of{K:W.Frag}(h:H a=some (.lst xs)):SqL K H a xs:=.inl (.inl h)
theorem Dw.of{K:W.Frag}(h:H a=some (.tup xs)):Dw K H a xs:=.inl (.inl h)
theorem Inv.list(I:Inv X Ac σ H s)(h:SqL X.K H a xs):∃its:List Value,Vals xs its/\PlainL s.heap a its.toArray/\xs.length<=sizeLine:=by
 rcases h with h|⟨o,its,n,hk,hc,hd,hs,hz,r⟩
 . obtain⟨z,its,n,r,e⟩:=h.ok I.hok;exact⟨its,r,⟨_,n,e,rfl,rfl,rfl⟩,z⟩
 . refine⟨its.toList,r,⟨o,n,I.kIn a o hk,hc,hd,by simpa using hs⟩,?_⟩;have e:=r.length;simp only[Array.length_toList]at e;omega
theorem Inv.tuple(I:Inv X Ac σ H s)(h:Dw X.K H a xs):∃its:List Value,Vals xs its/\IsTup s.heap a its.toArray/\xs.length<=sizeLine:=by
 rcases h with h|⟨o,its,n,hk,hc,_,hs,hz,r⟩
 . obtain⟨z,its,r,p⟩:=h.ok I.hok;exact⟨its,r,p.tup,z⟩
 . refine⟨its.toList,r,⟨o,I.kIn a o hk,hc,n,by simpa using hs⟩,?_⟩;have e:=r.length;simp only[Array.length_toList]at e;omega
theorem Inv.list_inj(I:Inv X Ac σ H s)(h:SqL X.K H a xs)(h':SqL X.K H a ys):xs=ys:=by
 obtain⟨its,r,⟨o,n,e,_,_,d⟩,_⟩:=I.list h;obtain⟨its',r',⟨o',n',e',_,_,d'⟩,_⟩:=I.list h';rw[e]at e';cases e';rw[d]at d';injection d' with d1 _;have:its=its':=by simpa using congrArg Array.toList d1
 subst this;exact r.inj r'
theorem Inv.tuple_inj(I:Inv X Ac σ H s)(h:Dw X.K H a xs)(h':Dw X.K H a ys):xs=ys:=by
 obtain⟨its,r,⟨o,e,_,n,d⟩,_⟩:=I.tuple h;obtain⟨its',r',⟨o',e',_,n',d'⟩,_⟩:=I.tuple h';rw[e]at e';cases e';rw[d]at d';injection d' with d1 _;have:its=its':=by simpa using congrArg Array.toList d1
 subst this;exact r.inj r'
end
abbrev Cx.wish(X:Cx)(E:Value->Shared->Prop):Cx:={ X with xe:=E }
abbrev Cx.nox(X:Cx):Cx:=X.wish fun _ _=>False
theorem Cx.Ok.wish{X:Cx}(ok:X.Ok)(E:Value->Shared->Prop):(X.wish E).Ok :=
 ⟨ok.mod,ok.kind,ok.glob,ok.blt,ok.above,ok.inj,ok.has,ok.cab,ok.hd,ok.frames,ok.stk,ok.exf,ok.bs,ok.bsz,ok.noex,ok.exfs,ok.funs,ok.frf⟩
theorem Cx.Ok.unwish{X:Cx}{E:Value->Shared->Prop}(ok:(X.wish E).Ok):X.Ok :=
 ⟨ok.mod,ok.kind,ok.glob,ok.blt,ok.above,ok.inj,ok.has,ok.cab,ok.hd,ok.frames,ok.stk,ok.exf,ok.bs,ok.bsz,ok.noex,ok.exfs,ok.funs,ok.frf⟩
section
variable{X:Cx}{Ac:LAObj}{σ:St}{H:Hp}{s:Shared}{E:Value->Shared->Prop}
theorem Inv.wish(I:Inv X Ac σ H s)(E:Value->Shared->Prop):Inv (X.wish E) Ac σ H s:=⟨I.ok.wish E,I.os,I.bare,I.base,I.loc,I.cell,I.free,I.freeC,I.pin,I.hok,I.len⟩
theorem Inv.unwish(I:Inv (X.wish E) Ac σ H s):Inv X Ac σ H s:=⟨I.ok.unwish,I.os,I.bare,I.base,I.loc,I.cell,I.free,I.freeC,I.pin,I.hok,I.len⟩
theorem SP.unwish{D:Ends}{f:Flow}{s':Shared}(h:SP (X.wish E) Ac D f s'):SP X Ac D f s':=by
 cases f with
 | next=>obtain⟨σ',H',I,q⟩:=h;exact⟨σ',H',I.unwish,q⟩
 | brk=>obtain⟨σ',H',I,q⟩:=h;exact⟨σ',H',I.unwish,q⟩
 | cont=>obtain⟨σ',H',I,q⟩:=h;exact⟨σ',H',I.unwish,q⟩
 | ret u=>obtain⟨v,σ',H',I,r,q⟩:=h;exact⟨v,σ',H',I.unwish,r,q⟩
theorem BB.nox{st:List Stmt}{t:TS}(h:BB X.nox st t):BB X st t:=fun Ac s σ H D I hw =>
 wpAny_mono (h Ac s σ H D (I.wish _) hw) (fun _ _ q=>q.unwish) fun _ _ z=>False.elim z
end
section
variable{X:Cx}{st:Stmt}{rest:List Stmt}{t u:TS}{e:Expr}{te:TE}{pos:Pos}
def UR:TS:=fun D σ H=>D.nx σ H
def KP(t u:TS):TS:=fun D σ H=>t { D with nx:=u D } σ H
theorem Az:BB X [] UR:=fun _ _ σ H _ I h=>wpAny_execs_nil ⟨σ,H,I,h⟩
theorem Ag(h1:PS X st t)(h2:BB X rest u):BB X (st::rest) (KP t u):=by
 intro Ac s σ H D I h;refine wpAny_execs_cons (Bu (h1 Ac s σ H { D with nx:=u D } I h) fun f s1 q=>?_);cases f with
 | next =>
   obtain⟨σ',H',I',q⟩:=q;exact h2 Ac s1 σ' H' D I' q
 | ret v=>exact q
 | brk=>exact q
 | cont=>exact q
theorem Ah(h1:PS X st t):BB X [st] t:=by
 intro Ac s σ H D I h;refine wpAny_execs_cons (Bu (h1 Ac s σ H D I h) fun f s1 q=>?_);cases f with
 | next=>exact wpAny_execs_nil q
 | ret v=>exact q
 | brk=>exact q
 | cont=>exact q
theorem Inv.quiet{Ac:LAObj}{σ:St}{H:Hp}{s:Shared}(I:Inv X Ac σ H s):interactive X.env=false:=by simp[interactive,I.ok.kind]
def US(te:TE):TS:=fun D σ H=>te σ H fun _ H1=>D.nx σ H1
theorem Ck(he:PE X e te)(hs:swapsWith e none pos.line X.env=pure false:=by rfl):PS X (.Expr e pos) (US te):=by
 intro Ac s σ H D I h;exact wpAny_Expr_any (Bu (he Ac s σ H _ I h) fun v s1 ⟨x,H1,I1,r1,q1⟩=>⟨σ,H1,I1,q1⟩) I.quiet hs
def yJ(te:TE):TS:=fun D σ H=>te σ H D.rt
theorem At(he:PE X e te):PS X (.Return (some e) pos) (yJ te):=by
 intro Ac s σ H D I h;exact wpAny_Return_some (Bu (he Ac s σ H _ I h) fun v s1 ⟨x,H1,I1,r1,q1⟩=>⟨x,σ,H1,I1,r1,q1⟩)
def T8(c:TT)(t u:TS):TS:=fun D σ H=>c σ H fun b H1=>if b=true then t D σ H1 else u D σ H1
theorem Ba{c:Expr}{a b:List Stmt}{tc:TT}(hc:PT X c tc)(ha:BB X a t)(hb:BB X b u):PS X (.If c a b pos) (T8 tc t u):=by
 intro Ac s σ H D I h;refine wpAny_If (Bu (hc Ac s σ H _ I h) fun d s1 ⟨H1,I1,q1⟩=>?_);cases d with
 | true=>exact ha Ac s1 σ H1 D I1 q1
 | false=>exact hb Ac s1 σ H1 D I1 q1
def RH:TS:=fun _ _ _=>False
theorem Mo:PS X st RH:=fun _ _ _ _ _ _ h=>h.elim
end
abbrev TG:=V->St->Hp->(St->Hp->Prop)->Prop
abbrev QZ:=List V->St->Hp->(St->Hp->Prop)->Prop
def PG(X:Cx)(target:Expr)(t:TG):Prop :=
 ∀(Ac:LAObj) (s:Shared) (σ:St) (H:Hp) (v:V) (u:Value) (Q:St->Hp->Prop),Inv X Ac σ H s->RelV v u->t v σ H Q →
   wpAny (model X.prog X.w) X.A (assign target X.env u) (fun _ s'=>∃σ' H',Inv X Ac σ' H' s'/\Q σ' H') X.xe s
def wW(X:Cx)(ts:List Expr)(t:QZ):Prop :=
 ∀(Ac:LAObj) (s:Shared) (σ:St) (H:Hp) (vs:List V) (us:List Value) (Q:St->Hp->Prop),Inv X Ac σ H s->Vals vs us->t vs σ H Q →
   wpAny (model X.prog X.w) X.A (assignInOrder ((assignEach ts X.env).map (·.2)) us) (fun _ s'=>∃σ' H',Inv X Ac σ' H' s'/\Q σ' H') X.xe s
abbrev tZ:=V->V->V->Hp->(Hp->Prop)->Prop
def WV(X:Cx)(t:tZ):Prop :=
 ∀(Ac:LAObj) (s:Shared) (σ:St) (H:Hp) (o i v:V) (ov iv u:Value) (Q:Hp->Prop),Inv X Ac σ H s->RelV o ov->RelV i iv->RelV v u->t o i v H Q →
   wpAny (model X.prog X.w) X.A (setItem ov iv u) (fun _ s'=>∃H',Inv X Ac σ H' s'/\Q H') X.xe s
abbrev YA:=V->V->Hp->VK->Prop
def PIp(X:Cx)(op:Operator)(t:YA):Prop :=
 ∀(Ac:LAObj) (s:Shared) (σ:St) (H:Hp) (x y:V) (v u:Value) (Q:VK),Inv X Ac σ H s->RelV x v->RelV y u->t x y H Q →
   wpAny (model X.prog X.w) X.A (inplaceOp op v u) (EP X Ac σ Q) X.xe s
section
variable{X:Cx}{pos:Pos}
def Tq(i:Nat):TG:=fun v σ H Q=>Q (σ.set i (some v)) H
theorem OZ{i:Nat}{x:Str}(hN:X.N.Nodup)(hi:X.N[i]?=some x)(hx:qH X.env.scope x)(hf:X.fn x=true\/X.env.scope.names.lookup x=some .local:=by first | exact .inl rfl | exact .inr rfl | assumption):PG X (.Name x pos) (Tq i):=by
 intro Ac s σ H v u Q I r h;exact wpAny_assign_Name (P5 I hN hi hx r (fun s' I'=>⟨_,H,I',h⟩) hf)
theorem Ax{i:Nat}{x:Str}(hN:X.N.Nodup)(hi:X.N[i]?=some x:=by rfl)(hx:qH X.env.scope x:=by first | exact Or.inl rfl | exact Or.inr rfl)(hf:X.fn x=true\/X.env.scope.names.lookup x=some .local:=by first | exact .inl rfl | exact .inr rfl | assumption):PG X (.Name x pos) (Tq i):=OZ hN hi hx hf
def Aa3:QZ:=fun vs σ H Q=>vs=[]/\Q σ H
def WK(t:TG)(u:QZ):QZ:=fun vs σ H Q=>∃v r,vs=v::r/\t v σ H fun σ' H'=>u r σ' H' Q
theorem Ek:wW X [] Aa3:=by
 intro Ac s σ H vs us Q I r h;obtain⟨e,h⟩:=h;subst e;cases r;exact assignInOrder_nil ⟨σ,H,I,h⟩
theorem Bi{e:Expr}{es:List Expr}{t:TG}{u:QZ}(h1:PG X e t)(h2:wW X es u)
 (hs:(assignEach (e::es) X.env).map (·.2)=assign e X.env::(assignEach es X.env).map (·.2):=by rfl):wW X (e::es) (WK t u):=by
 intro Ac s σ H vs us Q I r h;obtain⟨v,vr,e1,h⟩:=h;subst e1;cases r with
 | cons r rr =>
   rw[hs];refine assignInOrder_cons (Bu (h1 Ac s σ H _ _ _ I r h) fun _ s1 ⟨σ1,H1,I1,q1⟩=>?_);exact h2 Ac s1 σ1 H1 _ _ Q I1 rr q1
def wJ(K:W.Frag)(n:Nat)(t:QZ):TG:=fun v σ H Q=>∃a xs,v=.ref a/\Dw K H a xs/\xs.length=n/\t xs σ H Q
theorem RW{es:List Expr}{k:Nat}{t:QZ}{n:Nat}(hc:X.calm=true)(h:wW X es t)
 (hn:(assignEach es X.env).length=n:=by rfl) (hst:(assignEach es X.env).findIdx? (·.1)=none:=by rfl):PG X (.Tuple es k pos) (wJ X.K n t):=by
 intro Ac s σ H v u Q I r hw;obtain⟨a,xs,e1,hq,hl,hw⟩:=hw;subst e1;cases r;obtain⟨its,rv,ht,hz⟩:=I.tuple hq;refine assign_Tuple_tuple (I.ok.hd hc) ht (by simp[hn,←hl,rv.length]) hst fun h' hx=>?_;have I1:Inv X Ac σ H { s with heap:=h' }:=I.kept (t':=s.toks) fun b o e=>hx b o (Nat.ne_of_lt (Heap.lt_size e)) e;exact h Ac _ σ H xs _ Q I1 (by simpa using rv) hw
def Aa1(to ti:TE)(t:tZ):TG:=fun v σ H Q=>to σ H fun o H1=>ti σ H1 fun i H2=>t o i v H2 fun H3=>Q σ H3
theorem lK{o i:Expr}{to ti:TE}{t:tZ}(ho:PE X o to)(hi:PE X i ti)(hs:WV X t)
 (ha:∀v,assign (.Subscript o i pos) X.env v=(do
   let ov ←holding [v] (eval o X.env)
   let iv ←holding [v,ov] (eval i X.env)
   standAt pos
   holding [v,ov,iv] (setItem ov iv v)
   release [v,ov,iv] []):=by intro _;rfl):PG X (.Subscript o i pos) (Aa1 to ti t):=by
 intro Ac s σ H v u Q I r h;rw[ha];refine wpAny_bind (wpAny_holding (Bu (ho Ac s σ H _ I h) fun ov s1 ⟨x,H1,I1,r1,q1⟩=>?_));refine wpAny_bind (wpAny_holding (Bu (hi Ac s1 σ H1 _ I1 q1) fun iv s2 ⟨y,H2,I2,r2,q2⟩=>?_));refine wpAny_bind (wpAny_standAt (wpAny_bind (wpAny_holding (Bu (hs Ac s2 σ H2 x y v ov iv u _ I2 r1 r2 r q2) fun _ s3 ⟨H3,I3,q3⟩=>?_))));exact wpAny_release ⟨σ,H3,I3,q3⟩
def KQ(te:TE)(g:TG):TS:=fun D σ H=>te σ H fun x H1=>g x σ H1 D.nx
theorem LC{tg e:Expr}{te:TE}{g:TG}(he:PE X e te)(hg:PG X tg g)(hs:swapsWithSole [tg] e pos.line X.env=pure false:=by rfl)(hw:swappedStores [tg] e X.env=pure none:=by rfl)
 (h1:(assignEach [tg] X.env).map (·.2)=[assign tg X.env]:=by rfl):PS X (.Assign [tg] e pos) (KQ te g):=by
 intro Ac s σ H D I h;refine wpAny_Assign_stores (Bu (he Ac s σ H _ I h) fun v s1 ⟨x,H1,I1,r1,q1⟩=>?_) hs hw;rw[h1];exact Bu (hg Ac s1 σ H1 x v _ I1 r1 q1) fun _ s2 q=>q
theorem rR{i:Nat}{x:Str}{e:Expr}{te:TE}{pos':Pos}(hN:X.N.Nodup)(hi:X.N[i]?=some x)(hx:qH X.env.scope x)(he:PE X e te)(hs:swapsWith e (some (.Name x pos')) pos.line X.env=pure false:=by rfl)(hf:X.fn x=true\/X.env.scope.names.lookup x=some .local:=by first | exact .inl rfl | exact .inr rfl | assumption) :
 PS X (.Assign [.Name x pos'] e pos) (KQ te (Tq i)):=by
 intro Ac s σ H D I h;refine wpAny_Assign_Name (Bu (he Ac s σ H _ I h) fun v s1 ⟨y,H1,I1,r1,q1⟩=>?_) hs;exact P5 I1 hN hi hx r1 (fun s2 I2=>⟨_,H1,I2,q1⟩) hf
theorem Av{i:Nat}{x:Str}{e:Expr}{te:TE}{pos':Pos}(hN:X.N.Nodup)(he:PE X e te)(hi:X.N[i]?=some x:=by rfl)(hx:qH X.env.scope x:=by first | exact Or.inl rfl | exact Or.inr rfl)(hs:swapsWith e (some (.Name x pos')) pos.line X.env=pure false:=by rfl)(hf:X.fn x=true\/X.env.scope.names.lookup x=some .local:=by first | exact .inl rfl | exact .inr rfl | assumption):PS X (.Assign [.Name x pos'] e pos) (KQ te (Tq i)):=rR hN hi hx he hs hf
def YL(i:Nat)(te:TE)(ti:YA):TS:=fun D σ H=>∃x,σ[i]?=some (some x)/\te σ H fun y H1=>ti x y H1 fun z H2=>D.nx (σ.set i (some z)) H2
theorem rT{i:Nat}{x:Str}{e:Expr}{te:TE}{op:Operator}{ti:YA}{pos':Pos}(hN:X.N.Nodup)(hi:X.N[i]?=some x)(hx:qH X.env.scope x)(he:PE X e te)(ho:PIp X op ti)(hf:X.fn x=true\/X.env.scope.names.lookup x=some .local:=by first | exact .inl rfl | exact .inr rfl | assumption) :
 PS X (.AugAssign (.Name x pos') op e pos) (YL i te ti):=by
 intro Ac s σ H D I h;obtain⟨v,e1,h⟩:=h;obtain⟨m,hn,hl⟩:=I.loc;have vis:UL X.env.scope x:=by rcases hx with k | k;exact .inl k;exact .inr (.inl k)
 obtain⟨u,r,l⟩:=hl i x v hi e1 vis;refine wpAny_AugAssign_Name ?_
 have go:wpAny (model X.prog X.w) X.A (eval e X.env) (fun w s₂=>wpAny (model X.prog X.w) X.A (inplaceOp op u w) (fun r s₃=>wpAny (model X.prog X.w) X.A (storeName X.env x r) (fun _=>SP X Ac D .next) X.xe s₃) X.xe s₂) X.xe s:=by
  refine Bu (he Ac s σ H _ I h) fun w s1 ⟨y,H1,I1,r1,q1⟩=>?_;refine Bu (ho Ac s1 σ H1 v y u w _ I1 r r1 q1) fun z s2 ⟨zv,H2,I2,r2,q2⟩=>?_;exact P5 I2 hN hi hx r2 (fun s3 I3=>⟨_,H2,I3,q2⟩) hf
 rcases l with⟨hk,hm⟩|⟨hk,c,hc,hcell⟩
 . exact wpAny_loadName_local I.ok.kind hk hn hm go
 . rcases hk with hk | hk
   . exact wpAny_loadName_cell I.ok.kind hk hc hcell go
   . rcases hx with k | k
     . have:X.env.scope.names.lookup x=some .free:=hk;rw[k]at this;cases this
     . have:X.env.scope.names.lookup x=some .free:=hk;rw[k]at this;cases this
def ipI(f:Int->Int->Int):YA:=fun x y H Q=>∃i j,x=.int i/\y=.int j/\Q (.int (f i j)) H
theorem sU:PIp X .Add (ipI fun i j=>i+j):=by
 intro Ac s σ H x y v u Q I r1 r2 h;obtain⟨i,j,e1,e2,q⟩:=h;subst e1;subst e2;obtain⟨t,rfl⟩:=r1;obtain⟨t',rfl⟩:=r2;exact iadd_int ⟨.int _,H,I.tok _,⟨_,rfl⟩,q⟩
end
section
variable{X:Cx}{pos:Pos}
def RG(c:TT)(tb:TS):TS:=fun D σ H=>∃W:Nat->St->Hp->Prop,(∃m,W m σ H)/\∀m σ H,W m σ H →
 c σ H fun b H1=>if b=true then ∃N:St->Hp->Prop,(∀σ' H',N σ' H'->∃m',m'<m/\W m' σ' H')/\tb { D with nx:=N,ct:=N,bk:=D.nx } σ H1 else D.nx σ H1
theorem BK{c:Expr}{body:List Stmt}{tc:TT}{tb:TS}(hp:PassesOwn (model X.prog X.w) X.A X.env X.xe)(hc:PT X c tc)(hb:BB X body tb):PS X (.While c body [] pos) (RG tc tb):=by
 intro Ac s σ H D I h;obtain⟨W,⟨m0,w0⟩,turn⟩:=h;refine wpAny_While (codeAny_whileLoop (fun n s'=>∃σ' H',Inv X Ac σ' H' s'/\W n σ' H') ?_ m0 ⟨σ,H,I,w0⟩);rintro n s1 ⟨σ1,H1,I1,w1⟩;refine wpAny_passesOwn hp (Bu (hc Ac s1 σ1 H1 _ I1 (turn n σ1 H1 w1)) fun b s2 ⟨H2,I2,q2⟩=>?_);cases b with
 | true =>
   obtain⟨N,hN,q2⟩:=q2;rw[if_pos rfl];refine wpAny_passesOwn hp (Bu (hb Ac s2 σ1 H2 _ I2 q2) fun f s3 q3=>?_);cases f with
   | next =>
     obtain⟨σ3,H3,I3,n3⟩:=q3;obtain⟨m',hm,w3⟩:=hN σ3 H3 n3;exact⟨m',hm,σ3,H3,I3,w3⟩
   | cont =>
     obtain⟨σ3,H3,I3,n3⟩:=q3;obtain⟨m',hm,w3⟩:=hN σ3 H3 n3;exact⟨m',hm,σ3,H3,I3,w3⟩
   | brk=>exact q3
   | ret v=>exact q3
 | false =>
   rw[if_neg Bool.false_ne_true];exact wpAny_execs_nil ⟨σ1,H2,I2,q2⟩
end
structure It where
 go:Nat->Hp->Prop
 yld:Nat->Hp->V->Hp->Prop
 stop:Nat->Hp->Prop
def Je(X:Cx)(Ac:LAObj)(H:Hp)(b:Addr):Prop :=
 H b=none/\b≠X.env.locals/\b ∉ X.fs/\(b∈X.ex\/X.s₀.heap.objs.size<=b)/\(∀x c,X.env.cells.lookup x=some c->c≠b)/\∀p∈X.pn++Ac,p.1≠b
theorem Inv.fpOk{X:Cx}{Ac:LAObj}{σ:St}{H H':Hp}{s:Shared}{b:Addr}(I:Inv X Ac σ H s)(hb:s.heap.objs.size<=b)(hn:H' b=none):Je X Ac H' b:=by
 refine⟨hn,Nat.ne_of_gt (Nat.lt_of_lt_of_le I.lt hb),I.nofs hb,.inr (Nat.le_trans I.sz hb),fun x c e z=>?_,fun p hp z=>?_⟩
 . obtain⟨v,q⟩:=I.cell x c e;exact absurd (Nat.lt_of_lt_of_le q.lt (by rw[z];exact hb)) (Nat.lt_irrefl _)
 . exact absurd (Nat.lt_of_lt_of_le (Heap.lt_size (I.pin p hp).1) (by rw[z];exact hb)) (Nat.lt_irrefl _)
structure Uy(P:Program)(w:World)(K:W.Frag)(tg:Expr)(J:It)(fp:List Addr)(it:Addr)(tn:Nat->Heap->Prop):Prop where
 mem:it∈fp
 obj:∀i h,tn i h->∀b∈fp,∃o,h.get? b=some o/\∀v,o.data≠.cell v
 keep:∀i h h',tn i h->(∀b∈fp,∀o,h.get? b=some o->h'.get? b=some o)->tn i h'
 item:∀(X:Cx),X.prog=P->X.w=w->X.K=K->X.calm=true->∀(i:Nat) (Ac:LAObj) (s:Shared) (σ:St) (H:Hp) (E:Value->Shared->Prop),Inv X Ac σ H s->(∀b∈fp,Je X Ac H b)->tn i s.heap->J.go i H →
  wpAny (model P w) X.A (pyNext (.ref it)) (fun r s1=>∃u,r=some u ∧
   wpAny (model P w) X.A (letOwnedTupleGo tg (.ref it) u) (fun _ s2=>∃x H',Inv X Ac σ H' s2/\RelV x u/\J.yld i H x H'/\tn (i+1) s2.heap/\∀b∈fp,H' b=none) E s1) E s
 done:∀(X:Cx),X.prog=P->X.w=w->X.K=K->X.calm=true->∀(i:Nat) (Ac:LAObj) (s:Shared) (σ:St) (H:Hp) (E:Value->Shared->Prop),Inv X Ac σ H s->(∀b∈fp,Je X Ac H b)->tn i s.heap->J.stop i H →
  wpAny (model P w) X.A (pyNext (.ref it)) (fun r s1=>r=none/\Inv X Ac σ H s1) E s
 self:∀(A:Around) (i:Nat) (s:Shared) (Q:Value->Shared->Prop) (E:Value->Shared->Prop),tn i s.heap->Q (.ref it) s->wpAny (model P w) A (pyIter (.ref it)) Q E s
abbrev TI:=St->Hp->(It->Hp->Prop)->Prop
def PIE(X:Cx)(Ac:LAObj)(σ:St)(tg:Expr)(R:It->Hp->Prop)(itv:Value)(s2:Shared):Prop :=
 ∃(it:Addr) (fp:List Addr) (tn:Nat->Heap->Prop) (J:It) (H':Hp),itv=.ref it/\Inv X Ac σ H' s2/\Uy X.prog X.w X.K tg J fp it tn/\tn 0 s2.heap/\(∀b∈fp,Je X Ac H' b)/\R J H'
def PI(X:Cx)(tg iter:Expr)(wi:TI):Prop :=
 ∀(Ac:LAObj) (s:Shared) (σ:St) (H:Hp) (R:It->Hp->Prop),Inv X Ac σ H s->wi σ H R →
   wpAny (model X.prog X.w) X.A (eval iter X.env) (fun v s1=>wpAny (model X.prog X.w) X.A (pyIter v) (PIE X Ac σ tg R) X.xe s1) X.xe s
theorem MW{M:Model}{A:Around}{E:Value->Shared->Prop}{s:Shared}{tg:Expr}{it:Addr}{u:Value}{o:Obj}{n:String}{vs:Array Value}{Q:Unit->Shared->Prop}(ho:s.heap.get? it=some o)(hc:o.cls=.type n)(hd:o.data=.fields vs)
 (hn:["enumerate","zip","dict_itemiterator","dict_reverseitemiterator","odict_iterator","itertools.zip_longest","itertools.pairwise"].contains n=false) (hQ:Q () s):wpAny M A (letOwnedTupleGo tg (.ref it) u) Q E s:=by
 unfold letOwnedTupleGo
 cases tg<;>first
  | exact wpAny_pure hQ
  | (cases u<;>first
      | exact wpAny_pure hQ
      | (refine wpAny_bind (wpAny_load ho ?_)
         rw[hc,hd];show wpAny M A (if (["enumerate","zip","dict_itemiterator","dict_reverseitemiterator","odict_iterator","itertools.zip_longest","itertools.pairwise"].contains n&&vs[0]?==some (rawInt _))=true then _ else _) Q E s;rw[if_neg (by intro h;rw[hn,Bool.false_and]at h;cases h)];exact wpAny_pure hQ))
def uB(K:W.Frag)(a:Addr):It :=
 ⟨fun i H=>∃xs x,SqL K H a xs/\xs[i]?=some x,fun i H x H'=>H'=H/\∀xs,SqL K H a xs->xs[i]?=some x,fun i H=>∃xs,SqL K H a xs/\xs.length<=i⟩
def uA(K:W.Frag)(a:Addr):It :=
 ⟨fun i H=>∃xs x,Dw K H a xs/\xs[i]?=some x,fun i H x H'=>H'=H/\∀xs,Dw K H a xs->xs[i]?=some x,fun i H=>∃xs,Dw K H a xs/\xs.length<=i⟩
def QH(lo:Int)(n:Nat):It:=⟨fun i _=>i<n,fun i H x H'=>H'=H/\x=.int (lo+i),fun i _=>n<=i⟩
theorem HD{P:Program}{w:World}{K:W.Frag}{tg:Expr}(a it:Addr):Uy P w K tg (uB K a) [it] it (fun i h=>h.IsListIter it a i) where
 mem:=by simp
 obj:=fun i h st b hb=>by
  have e:b=it:=by simpa using hb
  subst e;obtain⟨o,e,c,d⟩:=st;exact⟨o,e,fun v z=>by rw[d]at z;cases z⟩
 keep:=fun i h h' st k=>st.at fun o e=>k it (by simp) o e
 item:=by
  intro X hP hw hK hc i Ac s σ H E I hf st hg;subst hP hw hK;obtain⟨xs,x,hq,hx⟩:=hg;obtain⟨its,rv,p,hz⟩:=I.list hq;obtain⟨u,hu,ru⟩:=rv.get hx;obtain⟨f0,f1,f2,f3,f4,f5⟩:=hf it (by simp);refine wpAny_pyNext_list_item st p.isList (x:=u) (by simpa using hu) fun h' st' sb=>?_;have I1:Inv X Ac σ H { s with heap:=h' }:=I.turned (t':=s.toks) (fun b o hb e=>(sb.2 b hb).trans e) f0 f1 f3 f4 f5;obtain⟨o,e,c,d⟩:=id st';exact⟨u,rfl,MW (s:={ s with heap:=h' }) e c d (by decide) ⟨x,H,I1,ru,⟨rfl,fun ys hy=>by rw[I.list_inj hy hq];exact hx⟩,st',fun b hb=>(hf b hb).1⟩⟩
 done:=by
  intro X hP hw hK hc i Ac s σ H E I hf st hg;subst hP hw hK;obtain⟨xs,hq,hx⟩:=hg;obtain⟨its,rv,p,hz⟩:=I.list hq;obtain⟨f0,f1,f2,f3,f4,f5⟩:=hf it (by simp);have hl:=rv.length;exact wpAny_pyNext_list_end (I.ok.hd hc) st p.isList (by simp;omega) fun h' eb=>⟨rfl,I.turned (t':=s.toks) (fun b o hb e=>eb b o hb e) f0 f1 f3 f4 f5⟩
 self:=fun _ _ _ _ _ st h=>wpAny_pyIter_listiter st h
theorem DH{P:Program}{w:World}{K:W.Frag}{tg:Expr}(a it:Addr):Uy P w K tg (uA K a) [it] it (fun i h=>h.IsTupleIter it a i) where
 mem:=by simp
 obj:=fun i h st b hb=>by
  have e:b=it:=by simpa using hb
  subst e;obtain⟨o,e,c,d⟩:=st;exact⟨o,e,fun v z=>by rw[d]at z;cases z⟩
 keep:=fun i h h' st k=>st.at fun o e=>k it (by simp) o e
 item:=by
  intro X hP hw hK hc i Ac s σ H E I hf st hg;subst hP hw hK;obtain⟨xs,x,hq,hx⟩:=hg;obtain⟨its,rv,p,hz⟩:=I.tuple hq;obtain⟨u,hu,ru⟩:=rv.get hx;obtain⟨f0,f1,f2,f3,f4,f5⟩:=hf it (by simp);refine wpAny_pyNext_tuple_item st (show s.heap.IsTuple a its.toArray from p) (x:=u) (by simpa using hu) fun h' st' sb=>?_;have I1:Inv X Ac σ H { s with heap:=h' }:=I.turned (t':=s.toks) (fun b o hb e=>(sb.2 b hb).trans e) f0 f1 f3 f4 f5;obtain⟨o,e,c,d⟩:=id st';exact⟨u,rfl,MW (s:={ s with heap:=h' }) e c d (by decide) ⟨x,H,I1,ru,⟨rfl,fun ys hy=>by rw[I.tuple_inj hy hq];exact hx⟩,st',fun b hb=>(hf b hb).1⟩⟩
 done:=by
  intro X hP hw hK hc i Ac s σ H E I hf st hg;subst hP hw hK;obtain⟨xs,hq,hx⟩:=hg;obtain⟨its,rv,p,hz⟩:=I.tuple hq;obtain⟨f0,f1,f2,f3,f4,f5⟩:=hf it (by simp);have hl:=rv.length;exact wpAny_pyNext_tuple_end (I.ok.hd hc) st (show s.heap.IsTuple a its.toArray from p) (by simp;omega) fun h' eb=>⟨rfl,I.turned (t':=s.toks) (fun b o hb e=>eb b o hb e) f0 f1 f3 f4 f5⟩
 self:=fun _ _ _ _ _ st h=>wpAny_pyIter_tupleiter st h
theorem dI{P:Program}{w:World}{K:W.Frag}{tg:Expr}(it:Addr)(lo:Int)(n:Nat):Uy P w K tg (QH lo n) [it] it (fun i h=>IsRangeIter h it (lo+(i:Nat)*1) ((n:Int)-(i:Nat)) 1) where
 mem:=by simp
 obj:=fun i h st b hb=>by
  have e:b=it:=by simpa using hb
  subst e
  exact⟨_,st,fun v z=>by
   have z':Data.fields _=Data.cell v:=z;cases z'⟩
 keep:=fun i h h' st k=>k it (by simp) _ st
 item:=by
  intro X hP hw hK hc i Ac s σ H E I hf st hg;subst hP hw hK;obtain⟨f0,f1,f2,f3,f4,f5⟩:=hf it (by simp);have W:=Walks.range (prog:=X.prog) (w:=X.w) (I.ok.hd hc) it lo 1 n;refine W.item i s _ _ hg st fun v h' tk hv st' kk=>?_;obtain⟨t,rfl⟩:=hv;have I1:Inv X Ac σ H { s with heap:=h',toks:=tk }:=I.turned (fun b o hb e=>kk b o (by simpa using hb) e) f0 f1 f3 f4 f5;refine⟨_,rfl,MW (s:={ s with heap:=h',toks:=tk }) (n:="range_iterator") st' rfl rfl (by decide) ⟨.int (lo+i),H,I1,⟨t,?_⟩,⟨rfl,rfl⟩,st',fun b hb=>(hf b hb).1⟩⟩;rw[Int.mul_one]
 done:=by
  intro X hP hw hK hc i Ac s σ H E I hf st hg;subst hP hw hK;obtain⟨f0,f1,f2,f3,f4,f5⟩:=hf it (by simp);exact wpAny_pyNext_range_end (I.ok.hd hc) st (by have:n<=i:=hg;omega) fun h' eb=>⟨rfl,I.turned (t':=s.toks) (fun b o hb e=>eb b o hb e) f0 f1 f3 f4 f5⟩
 self:=fun _ _ _ _ _ st h=>wpAny_pyIter_rangeiter st h
section
variable{X:Cx}{tg:Expr}
def qS(K:W.Frag)(tl:TE):TI:=fun σ H R=>tl σ H fun x H1=>∃a,x=.ref a/\(∃xs,SqL K H1 a xs)/\R (uB K a) H1
def VS(K:W.Frag)(tl:TE):TI:=fun σ H R=>tl σ H fun x H1=>∃a,x=.ref a/\(∃xs,Dw K H1 a xs)/\R (uA K a) H1
theorem OX{l:Expr}{tl:TE}(hl:PE X l tl):PI X tg l (qS X.K tl):=by
 intro Ac s σ H R I h;refine Bu (hl Ac s σ H _ I h) fun v s1 ⟨x,H1,I1,r1,q1⟩=>?_;obtain⟨a,e,⟨xs,hq⟩,q⟩:=q1;subst e;cases r1;obtain⟨its,rv,p,hz⟩:=I1.list hq;refine wpAny_pyIter_list p.isList ?_;refine⟨s1.heap.objs.size,[s1.heap.objs.size],_,_,H1,rfl,I1.kept (t':=s1.toks) fun b o e=>Heap.get?_push_of_some _ e,HD a _,⟨_,Heap.get?_push_size _ rfl,rfl,rfl⟩,fun b hb=>?_,q⟩;have e:b=s1.heap.objs.size:=by simpa using hb
 subst e;exact I1.fpOk (Nat.le_refl _) (I1.hok.fresh (Nat.le_refl _))
theorem rW{l:Expr}{tl:TE}(hl:PE X l tl):PI X tg l (VS X.K tl):=by
 intro Ac s σ H R I h;refine Bu (hl Ac s σ H _ I h) fun v s1 ⟨x,H1,I1,r1,q1⟩=>?_;obtain⟨a,e,⟨xs,hq⟩,q⟩:=q1;subst e;cases r1;obtain⟨its,rv,p,hz⟩:=I1.tuple hq;refine wpAny_pyIter_tuple (show s1.heap.IsTuple a its.toArray from p) ?_;refine⟨s1.heap.objs.size,[s1.heap.objs.size],_,_,H1,rfl,I1.kept (t':=s1.toks) fun b o e=>Heap.get?_push_of_some _ e,DH a _,⟨_,Heap.get?_push_size _ rfl,rfl,rfl⟩,fun b hb=>?_,q⟩;have e:b=s1.heap.objs.size:=by simpa using hb
 subst e;exact I1.fpOk (Nat.le_refl _) (I1.hok.fresh (Nat.le_refl _))
theorem BJ{Ac:LAObj}{σ:St}{H:Hp}{s:Shared}{R:It->Hp->Prop}{E:Value->Shared->Prop}{lo hi:Int}{t u v:Tok}{tk:Nat}(I:Inv X Ac σ H s)(h1:-(2 ^ 62)<=lo)(h2:lo<2 ^ 62)(h3:-(2 ^ 62)<=hi)(h4:hi<2 ^ 62)
 (q:R (QH lo (hi-lo).toNat) H):wpAny (model X.prog X.w) X.A (pyIter (.ref s.heap.objs.size)) (PIE X Ac σ tg R) E { s with heap:=s.heap.push { cls:=.type "range",data:=.fields #[.int lo t,.int hi u,.int 1 v] },toks:=tk }:=by
 refine wpAny_pyIter_range (IsRange.new ..) (small_one h1 h2 h3 h4) ?_;have I1:Inv X Ac σ H { s with heap:=s.heap.push { cls:=.type "range",data:=.fields #[.int lo t,.int hi u,.int 1 v] },toks:=tk }:=I.kept fun b o e=>Heap.get?_push_of_some _ e
 refine⟨(s.heap.push { cls:=.type "range",data:=.fields #[.int lo t,.int hi u,.int 1 v] }).objs.size,[(s.heap.push { cls:=.type "range",data:=.fields #[.int lo t,.int hi u,.int 1 v] }).objs.size],_,_,H,rfl,
  I1.kept (t':=tk) fun b o e=>Heap.get?_push_of_some _ e,dI _ lo (hi-lo).toNat,?_,fun b hb=>?_,q⟩
 . have e1:lo+((0:Nat):Int)*1=lo:=by simp
   have e2:(((hi-lo).toNat:Nat):Int)-((0:Nat):Int)=Builtin.Range.rangeSize lo hi 1:=by rw[rangeSize_one];split<;>omega
   show IsRangeIter _ _ (lo+((0:Nat):Int)*1) ((((hi-lo).toNat:Nat):Int)-((0:Nat):Int)) 1;rw[e1,e2];exact Heap.get?_push_size _ rfl
 . have e:b=(s.heap.push { cls:=.type "range",data:=.fields #[.int lo t,.int hi u,.int 1 v] }).objs.size:=by simpa using hb
   subst e;exact I1.fpOk (Nat.le_refl _) (I1.hok.fresh (Nat.le_refl _))
def vU(ta:TA):TI:=fun σ H R=>ta σ H fun vs H1=>∃j:Int,vs=[.int j]/\-(2 ^ 62)<=j/\j<2 ^ 62/\R (QH 0 j.toNat) H1
def VT(ta:TA):TI:=fun σ H R=>ta σ H fun vs H1=>∃i j:Int,vs=[.int i,.int j]/\(-(2 ^ 62)<=i/\i<2 ^ 62/\-(2 ^ 62)<=j/\j<2 ^ 62)/\R (QH i (j-i).toNat) H1
theorem Ch{a:Expr}{ta:TA}{p pos:Pos}(hg:Gl X "range")(hm:X.mg "range"=none)(ha:PA X [a] ta)(hs:starEach [a] X.env=[(false,eval a X.env)]:=by rfl):PI X tg (.Call (.Name "range" p) [a] [] pos) (vU ta):=by
 intro Ac s σ H R I h;refine Call_ (Ja I hg hm boot_range (PyProof.Rows.callWith_type1 (Bu (ha pos Ac s σ H _ I h) fun us s1 ⟨vs,H1,I1,r1,q1⟩=>?_) hs rfl));obtain⟨j,e,q1,q2,q⟩:=q1;subst e;cases r1 with
 | cons r rr =>
   cases rr;obtain⟨t,rfl⟩:=r;exact call_range_1 (BJ I1 (by omega) (by omega) q1 q2 (by simpa using q))
theorem Sa{a b:Expr}{ta:TA}{p pos:Pos}(hg:Gl X "range")(hm:X.mg "range"=none)(ha:PA X [a,b] ta)(hs:starEach [a,b] X.env=[(false,eval a X.env),(false,eval b X.env)]:=by rfl)(hs2:starEach [b] X.env=[(false,eval b X.env)]:=by rfl) :
 PI X tg (.Call (.Name "range" p) [a,b] [] pos) (VT ta):=by
 intro Ac s σ H R I h;refine Call_ (Ja I hg hm boot_range (PyProof.Rows.callWith_type1 (Bu (ha pos Ac s σ H _ I h) fun us s1 ⟨vs,H1,I1,r1,q1⟩=>?_) (by rw[hs,hs2]) (by rw[hs2];rfl)));obtain⟨i,j,e,⟨q1,q2,q3,q4⟩,q⟩:=q1;subst e;cases r1 with
 | cons r rr =>
   cases rr with
   | cons r' rr =>
     cases rr;obtain⟨t,rfl⟩:=r;obtain⟨t',rfl⟩:=r';exact call_range_2 (BJ I1 q1 q2 q3 q4 q)
def DJ(wi:TI)(g:TG)(tb:TS):TS:=fun D σ H=>wi σ H fun J H1=>∃W:Nat->Nat->St->Hp->Prop,(∃m,W 0 m σ H1)/\∀i m σ H,W i m σ H →
 (J.stop i H/\D.nx σ H)\/(J.go i H/\∃N:St->Hp->Prop,(∀σ' H',N σ' H'->∃m',m'<m/\W (i+1) m' σ' H')/\∀x H',J.yld i H x H'->g x σ H' fun σ2 H2=>tb { D with nx:=N,ct:=N,bk:=D.nx } σ2 H2)
def Vz(fp:List Addr)(h:Heap):LAObj:=fp.filterMap fun b=>(h.get? b).map fun o=>(b,o)
theorem Ks{fp:List Addr}{h:Heap}{b:Addr}{o:Obj}(hb:b∈fp)(e:h.get? b=some o):(b,o)∈Vz fp h:=List.mem_filterMap.mpr ⟨b,hb,by rw[e];rfl⟩
theorem iK{fp:List Addr}{h:Heap}{p:Addr × Obj}(hp:p∈Vz fp h):p.1∈fp/\h.get? p.1=some p.2:=by
 obtain⟨b,hb,e⟩:=List.mem_filterMap.mp hp;cases q:h.get? b with
 | none=>rw[q]at e;cases e
 | some o =>
   rw[q]at e;have e':(b,o)=p:=Option.some.inj e;subst e';exact⟨hb,q⟩
theorem Inv.pinned{Ac:LAObj}{σ:St}{H:Hp}{s:Shared}{fp:List Addr}(I:Inv X Ac σ H s)(hf:∀b∈fp,Je X Ac H b)(ho:∀b∈fp,∃o,s.heap.get? b=some o/\∀v,o.data≠.cell v):Inv X (Ac++Vz fp s.heap) σ H s :=
 I.pins_of fun p hp=>(List.mem_append.mp hp).elim (fun z=>I.pin p (List.mem_append_right _ z)) fun z=>by
  obtain⟨hb,e⟩:=iK z;obtain⟨f0,f1,f2,_⟩:=hf p.1 hb;obtain⟨o,e',d⟩:=ho p.1 hb;rw[e]at e';cases e';exact⟨e,f0,f1,f2,d⟩
theorem Inv.unpinned{Ac pl:LAObj}{σ:St}{H:Hp}{s:Shared}(I:Inv X (Ac++pl) σ H s):Inv X Ac σ H s:=I.pins_of fun p hp=>I.pin p (List.mem_append_right _ (List.mem_append_left _ hp))
theorem C5{iter:Expr}{body:List Stmt}{wi:TI}{g:TG}{tb:TS}{pos:Pos}(hp:PassesOwn (model X.prog X.w) X.A X.env X.xe)(hc:X.calm=true)(hi:PI X tg iter wi)(hg:PG X tg g)(hb:BB X body tb)
 (hs:∀x,foldedSetIterable iter X.env x=pure x:=by intro _;rfl):PS X (.For tg iter body [] pos) (DJ wi g tb):=by
 intro Ac s σ H D I h;refine wpAny_For (Bu (hi Ac s σ H _ I h) fun v s1 h1=>Bu h1 fun itv s2 h2=>?_) hs;obtain⟨it,fp,tn,J,H2,e,I2,T,st2,f2,W,⟨m0,w0⟩,turn⟩:=h2;subst e;have DK:∀{H':Hp},(∀b∈fp,H' b=none)->∀b∈fp,Je X Ac H' b:=fun hn b hb=>⟨hn b hb,(f2 b hb).2⟩
 refine codeAny_forLoop_any (fun n s'=>∃i σ' H',Inv X Ac σ' H' s'/\tn i s'.heap/\(∀b∈fp,H' b=none)/\W i n σ' H') ?_ m0 ⟨0,σ,H2,I2,st2,fun b hb=>(f2 b hb).1,w0⟩;rintro n s3 ⟨i,σ3,H3,I3,st3,TN,w3⟩;rcases turn i n σ3 H3 w3 with⟨stop,qn⟩|⟨go,N,hN,step⟩
 . refine wpAny_passesOwn hp (Bu (T.done X rfl rfl rfl hc i Ac s3 σ3 H3 X.xe I3 (DK TN) st3 stop) fun r s4 ⟨hr,I4⟩=>?_);subst hr;exact wpAny_execs_nil ⟨σ3,H3,I4,qn⟩
 . refine wpAny_passesOwn hp (Bu (T.item X rfl rfl rfl hc i Ac s3 σ3 H3 X.xe I3 (DK TN) st3 go) fun r s4 ⟨u,hr,h4⟩=>?_);subst hr;refine wpAny_passesOwn hp (Bu h4 fun _ s5 ⟨x,H5,I5,r5,y5,rM,fr5⟩=>?_);have I5':=I5.pinned (DK fr5) (T.obj _ _ rM);refine wpAny_passesOwn hp (Bu (hg _ s5 σ3 H5 x u _ I5' r5 (step x H5 y5)) fun _ s6 ⟨σ6,H6,I6,q6⟩=>?_);refine wpAny_passesOwn hp (Bu (hb _ s6 σ6 H6 _ I6 q6) fun f s7 q7=>?_)
   have again:∀{σ7:St}{H7:Hp},Inv X (Ac++Vz fp s5.heap) σ7 H7 s7->N σ7 H7->∃m,m<n/\∃i σ' H',Inv X Ac σ' H' s7/\tn i s7.heap/\(∀b∈fp,H' b=none)/\W i m σ' H':=fun {σ7 H7} I7 n7=>by
    obtain⟨m',hm,w7⟩:=hN σ7 H7 n7;refine⟨m',hm,i+1,σ7,H7,I7.unpinned,T.keep _ _ _ rM fun b hb o e=>(I7.pin (b,o) (List.mem_append_right _ (List.mem_append_right _ (Ks hb e)))).1,fun b hb=>?_,w7⟩;obtain⟨o,e,d⟩:=T.obj _ _ rM b hb;exact(I7.pin (b,o) (List.mem_append_right _ (List.mem_append_right _ (Ks hb e)))).2.1
   cases f with
   | next=>obtain⟨σ7,H7,I7,n7⟩:=q7;exact again I7 n7
   | cont=>obtain⟨σ7,H7,I7,n7⟩:=q7;exact again I7 n7
   | brk=>obtain⟨σ7,H7,I7,q7⟩:=q7;exact⟨σ7,H7,I7.unpinned,q7⟩
   | ret v=>obtain⟨x7,σ7,H7,I7,r7,q7⟩:=q7;exact⟨x7,σ7,H7,I7.unpinned,r7,q7⟩
end
theorem for_list{K:W.Frag}{a:Addr}{xs:List V}{g:TG}{tb:TS}{D:Ends}{σ:St}{H:Hp}(Pv:Nat->St->Hp->Prop)(h0:Pv 0 σ H)(hl:∀i σ H,i<=xs.length->Pv i σ H->SqL K H a xs)
 (hs:∀i x σ H,xs[i]?=some x->Pv i σ H->g x σ H fun σ2 H2=>tb { D with nx:=Pv (i+1),ct:=Pv (i+1),bk:=D.nx } σ2 H2) (hd:∀σ H,Pv xs.length σ H->D.nx σ H) :
 ∃W:Nat->Nat->St->Hp->Prop,(∃m,W 0 m σ H)/\∀i m σ H,W i m σ H →
   ((uB K a).stop i H/\D.nx σ H)\/((uB K a).go i H/\∃N:St->Hp->Prop,(∀σ' H',N σ' H'->∃m',m'<m/\W (i+1) m' σ' H')/\∀x H',(uB K a).yld i H x H'->g x σ H' fun σ2 H2=>tb { D with nx:=N,ct:=N,bk:=D.nx } σ2 H2):=by
 refine⟨fun i m σ H=>m=xs.length-i/\i<=xs.length/\Pv i σ H,⟨xs.length,by simp,Nat.zero_le _,h0⟩,?_⟩;rintro i m σ H ⟨rfl,hi,p⟩;have q:=hl i σ H hi p;by_cases hlt:i<xs.length
 . refine .inr ⟨⟨xs,xs[i],q,by simp[hlt]⟩,Pv (i+1),fun σ' H' p'=>⟨xs.length-(i+1),by omega,rfl,hlt,p'⟩,fun x H' y=>?_⟩;obtain⟨e,y⟩:=y;subst e;exact hs i x σ _ (y xs q) p
 . have e:i=xs.length:=by omega
   subst e;exact .inl ⟨⟨xs,q,Nat.le_refl _⟩,hd σ H p⟩
theorem GI{K:W.Frag}{a:Addr}{xs:List V}{g:TG}{tb:TS}{D:Ends}{σ:St}{H:Hp}(Pv:Nat->St->Hp->Prop)(h0:Pv 0 σ H)(hl:∀i σ H,i<=xs.length->Pv i σ H->Dw K H a xs)
 (hs:∀i x σ H,xs[i]?=some x->Pv i σ H->g x σ H fun σ2 H2=>tb { D with nx:=Pv (i+1),ct:=Pv (i+1),bk:=D.nx } σ2 H2) (hd:∀σ H,Pv xs.length σ H->D.nx σ H) :
 ∃W:Nat->Nat->St->Hp->Prop,(∃m,W 0 m σ H)/\∀i m σ H,W i m σ H →
   ((uA K a).stop i H/\D.nx σ H)\/((uA K a).go i H/\∃N:St->Hp->Prop,(∀σ' H',N σ' H'->∃m',m'<m/\W (i+1) m' σ' H')/\∀x H',(uA K a).yld i H x H'->g x σ H' fun σ2 H2=>tb { D with nx:=N,ct:=N,bk:=D.nx } σ2 H2):=by
 refine⟨fun i m σ H=>m=xs.length-i/\i<=xs.length/\Pv i σ H,⟨xs.length,by simp,Nat.zero_le _,h0⟩,?_⟩;rintro i m σ H ⟨rfl,hi,p⟩;have q:=hl i σ H hi p;by_cases hlt:i<xs.length
 . refine .inr ⟨⟨xs,xs[i],q,by simp[hlt]⟩,Pv (i+1),fun σ' H' p'=>⟨xs.length-(i+1),by omega,rfl,hlt,p'⟩,fun x H' y=>?_⟩;obtain⟨e,y⟩:=y;subst e;exact hs i x σ _ (y xs q) p
 . have e:i=xs.length:=by omega
   subst e;exact .inl ⟨⟨xs,q,Nat.le_refl _⟩,hd σ H p⟩
theorem Dv{lo:Int}{n:Nat}{g:TG}{tb:TS}{D:Ends}{σ:St}{H:Hp}(Pv:Nat->St->Hp->Prop)(h0:Pv 0 σ H)
 (hs:∀i σ H,i<n->Pv i σ H->g (.int (lo+i)) σ H fun σ2 H2=>tb { D with nx:=Pv (i+1),ct:=Pv (i+1),bk:=D.nx } σ2 H2) (hd:∀σ H,Pv n σ H->D.nx σ H) :
 ∃W:Nat->Nat->St->Hp->Prop,(∃m,W 0 m σ H)/\∀i m σ H,W i m σ H →
   ((QH lo n).stop i H/\D.nx σ H)\/((QH lo n).go i H/\∃N:St->Hp->Prop,(∀σ' H',N σ' H'->∃m',m'<m/\W (i+1) m' σ' H')/\∀x H',(QH lo n).yld i H x H'->g x σ H' fun σ2 H2=>tb { D with nx:=N,ct:=N,bk:=D.nx } σ2 H2):=by
 refine⟨fun i m σ H=>m=n-i/\i<=n/\Pv i σ H,⟨n,by simp,Nat.zero_le _,h0⟩,?_⟩;rintro i m σ H ⟨rfl,hi,p⟩;by_cases hlt:i<n
 . refine .inr ⟨hlt,Pv (i+1),fun σ' H' p'=>⟨n-(i+1),by omega,rfl,hlt,p'⟩,fun x H' y=>?_⟩;obtain⟨e,y⟩:=y;subst e y;exact hs i σ _ hlt p
 . have e:i=n:=by omega
   subst e;exact .inl ⟨Nat.le_refl _,hd σ H p⟩
abbrev R2:=V->V->Hp->VK->Prop
def OpR(X:Cx)(f:Value->Value->Sem Value)(r:R2):Prop :=
 ∀(Ac:LAObj) (s:Shared) (σ:St) (H:Hp) (x y:V) (v u:Value) (Q:VK),Inv X Ac σ H s->RelV x v->RelV y u->r x y H Q →
   wpAny (model X.prog X.w) X.A (f v u) (EP X Ac σ Q) X.xe s
def UnR(X:Cx)(f:Value->Sem Value)(r:V->Hp->VK->Prop):Prop :=
 ∀(Ac:LAObj) (s:Shared) (σ:St) (H:Hp) (x:V) (v:Value) (Q:VK),Inv X Ac σ H s->RelV x v->r x H Q →
   wpAny (model X.prog X.w) X.A (f v) (EP X Ac σ Q) X.xe s
def Ei(X:Cx)(f:Value)(r:List V->Hp->VK->Prop):Prop :=
 ∀(Ac:LAObj) (s:Shared) (σ:St) (H:Hp) (xs:List V) (us:List Value) (Q:VK),Inv X Ac σ H s->Vals xs us->r xs H Q →
   wpAny (model X.prog X.w) X.A (call f us) (EP X Ac σ Q) X.xe s
def UQ(r:R2)(ta tb:TE):TE:=fun σ H Q=>ta σ H fun x H1=>tb σ H1 fun y H2=>r x y H2 Q
def tUn(r:V->Hp->VK->Prop)(ta:TE):TE:=fun σ H Q=>ta σ H fun x H1=>r x H1 Q
def rI(C:Int->Int->Prop)(g:Int->Int->V):R2:=fun x y H Q=>∃i j,x=.int i/\y=.int j/\C i j/\Q (g i j) H
def oU(g:Int->Int->V):R2:=fun x y H Q=>∃i j,x=.int i/\y=.int j/\Q (g i j) H
def rU(g:Int->V):V->Hp->VK->Prop:=fun x H Q=>∃i,x=.int i/\Q (g i) H
section
variable{X:Cx}{a b c:Expr}{ta tb tc:TE}{pos:Pos}
theorem tW(ha:PE X a ta)(hb:PE X b tb){Ac:LAObj}{s:Shared}{σ:St}{H:Hp}{R:V->V->Hp->Prop}(I:Inv X Ac σ H s)
 (h:ta σ H fun x H1=>tb σ H1 fun y H2=>R x y H2) {Q:Value->Shared->Prop}{f:Value->Value->Sem Value}
 (hf:∀v u s2 x y H2,Inv X Ac σ H2 s2->RelV x v->RelV y u->R x y H2->wpAny (model X.prog X.w) X.A (f v u) Q X.xe s2) :
 wpAny (model X.prog X.w) X.A (eval a X.env) (fun v s₁=>wpAny (model X.prog X.w) X.A (eval b X.env) (fun u s₂=>wpAny (model X.prog X.w) X.A (f v u) Q X.xe s₂) X.xe s₁) X.xe s:=by
 refine Bu (ha Ac s σ H _ I h) fun v s1 ⟨x,H1,I1,r1,q1⟩=>?_;refine Bu (hb Ac s1 σ H1 _ I1 q1) fun u s2 ⟨y,H2,I2,r2,q2⟩=>?_;exact hf v u s2 x y H2 I2 r1 r2 q2
theorem A6{op:Operator}{r:R2}(ho:OpR X (binaryOp op) r)(ha:PE X a ta)(hb:PE X b tb):PE X (.BinOp a op b pos) (UQ r ta tb):=by
 intro Ac s σ H Q I h;exact wpAny_BinOp (tW ha hb I h fun v u s2 x y H2 I2 rx ry q=>ho Ac s2 σ H2 x y v u Q I2 rx ry q)
theorem Qb{op:UnaryOp}{r:V->Hp->VK->Prop}(ho:UnR X (unaryOp op) r)(ha:PE X a ta):PE X (.UnaryOp op a pos) (tUn r ta):=by
 intro Ac s σ H Q I h;exact UnaryOp_ (Bu (ha Ac s σ H _ I h) fun v s1 ⟨x,H1,I1,r1,q1⟩=>ho Ac s1 σ H1 x v Q I1 r1 q1)
theorem opI{f:Value->Value->Sem Value}{C:Int->Int->Prop}{g:Int->Int->Int}
 (rule:∀(i j:Int) (t u:Tok) (s:Shared) (Q:Value->Shared->Prop) (E:Value->Shared->Prop),C i j->Q (.int (g i j) s.toks) { s with toks:=s.toks+1 }->wpAny (model X.prog X.w) X.A (f (.int i t) (.int j u)) Q E s) :
 OpR X f (rI C fun i j=>.int (g i j)):=by
 intro Ac s σ H x y v u Q I rx ry h;obtain⟨i,j,rfl,rfl,hc,q⟩:=h;obtain⟨t,rfl⟩:=rx;obtain⟨t',rfl⟩:=ry;exact rule i j t t' s _ _ hc ⟨.int (g i j),H,I.tok _,⟨_,rfl⟩,q⟩
theorem SA{f:Value->Value->Sem Value}{g:Int->Int->Int}
 (rule:∀(i j:Int) (t u:Tok) (s:Shared) (Q:Value->Shared->Prop) (E:Value->Shared->Prop),Q (.int (g i j) s.toks) { s with toks:=s.toks+1 }->wpAny (model X.prog X.w) X.A (f (.int i t) (.int j u)) Q E s) :
 OpR X f (oU fun i j=>.int (g i j)):=by
 intro Ac s σ H x y v u Q I rx ry h;obtain⟨i,j,rfl,rfl,q⟩:=h;obtain⟨t,rfl⟩:=rx;obtain⟨t',rfl⟩:=ry;exact rule i j t t' s _ _ ⟨.int (g i j),H,I.tok _,⟨_,rfl⟩,q⟩
theorem pH{f:Value->Value->Sem Value}{g:Int->Int->Bool}
 (rule:∀(i j:Int) (t u:Tok) (s:Shared) (Q:Value->Shared->Prop) (E:Value->Shared->Prop),Q (.bool (g i j)) s->wpAny (model X.prog X.w) X.A (f (.int i t) (.int j u)) Q E s) :
 OpR X f (oU fun i j=>.bl (g i j)):=by
 intro Ac s σ H x y v u Q I rx ry h;obtain⟨i,j,rfl,rfl,q⟩:=h;obtain⟨t,rfl⟩:=rx;obtain⟨t',rfl⟩:=ry;exact rule i j t t' s _ _ ⟨.bl (g i j),H,I,rfl,q⟩
def Ad7(i j:Int):Prop:=0<j/\j<1073741824
def qI(i j:Int):Prop:=(-(2 ^ 64)<i/\i<2 ^ 64)\/(-(2 ^ 64)<j/\j<2 ^ 64)
theorem qI.ok{i j:Int}(h:qI i j):IntMulOk i j:=by
 rcases h with⟨h1,h2⟩|⟨h1,h2⟩
 . exact .of_left (intBits_le_64 h1 h2)
 . exact .of_right (intBits_le_64 h1 h2)
theorem F2:OpR X (binaryOp .Add) (oU fun i j=>.int (i+j)):=SA fun _ _ _ _ _ _ _ q=>add_int q
theorem Mr:OpR X (binaryOp .Sub) (oU fun i j=>.int (i-j)):=SA fun _ _ _ _ _ _ _ q=>sub_int q
theorem Ik:OpR X (binaryOp .FloorDiv) (rI Ad7 fun i j=>.int (i / j)):=opI fun i j _ _ _ _ _ hc q=>by
 have h1:(0:Int)<j:=hc.1;have h2:j<1073741824:=hc.2;exact floordiv_int (by omega) (by rw[Int.fdiv_eq_ediv_of_nonneg i (by omega)];exact q) (.inl (PyProof.noPylong_small (by omega)))
theorem Bs:OpR X (binaryOp .Mod) (rI (fun _ j=>0<j) fun i j=>.int (i%j)):=opI fun i j _ _ _ _ _ hc q=>by
 have h1:(0:Int)<j:=hc;exact mod_int' (by omega) (by rw[Int.fmod_eq_emod_of_nonneg i (by omega)];exact q)
theorem op_or:OpR X (binaryOp .BitOr) (oU fun i j=>.int (Builtin.bitOr i j)):=SA fun _ _ _ _ _ _ _ q=>or_int q
theorem unI{f:Value->Sem Value}{g:Int->Int}
 (rule:∀(i:Int) (t:Tok) (s:Shared) (Q:Value->Shared->Prop) (E:Value->Shared->Prop),Q (.int (g i) s.toks) { s with toks:=s.toks+1 }->wpAny (model X.prog X.w) X.A (f (.int i t)) Q E s) :
 UnR X f (rU fun i=>.int (g i)):=by
 intro Ac s σ H x v Q I rx h;obtain⟨i,rfl,q⟩:=h;obtain⟨t,rfl⟩:=rx;exact rule i t s _ _ ⟨.int (g i),H,I.tok _,⟨_,rfl⟩,q⟩
theorem Kb:UnR X (unaryOp .USub) (rU fun i=>.int (-i)):=unI fun _ _ _ _ _ q=>neg_int q
end
def scal:V->V->Bool
 | .non,.non=>true | .non,.int _=>true | .int _,.non=>true | .non,.bl _=>true | .bl _,.non=>true | .non,.str _=>true | .str _,.non=>true
 | .int _,.int _=>true | .bl _,.bl _=>true | .str _,.str _=>true | .byt _,.byt _=>true
 | .int _,.str _=>true | .str _,.int _=>true | .bl _,.str _=>true | .str _,.bl _=>true
 | _,_=>false
def rEq:R2:=fun x y H Q=>scal x y=true/\Q (.bl (decide (x=y))) H
def rNe:R2:=fun x y H Q=>scal x y=true/\Q (.bl (!decide (x=y))) H
theorem GL{i j:Int}:decide (V.int i=V.int j)=(i==j):=by
 rw[Bool.eq_iff_iff];simp
theorem nG{i j:Bool}:decide (V.bl i=V.bl j)=(i==j):=by
 rw[Bool.eq_iff_iff];simp
theorem GK{i j:Str}:decide (V.str i=V.str j)=(i==j):=by
 rw[Bool.eq_iff_iff];simp
theorem gM{i j:Array UInt8}:decide (V.byt i=V.byt j)=(i.toList==j.toList):=by
 rw[Bool.eq_iff_iff];cases i;cases j;simp
section
variable{X:Cx}{a b c:Expr}{ta tb tc:TE}{pos:Pos}
theorem Bp{Ac:LAObj}{σ:St}{H:Hp}{s:Shared}{Q:VK}{k k':Bool}(I:Inv X Ac σ H s)(q:Q (.bl k) H)(e:k=k'):EP X Ac σ Q (.bool k') s:=by
 subst e;exact⟨.bl k,H,I,rfl,q⟩
theorem Cq:OpR X (compareOp .Eq) rEq:=by
 intro Ac s σ H x y v u Q I rx ry h;obtain⟨hs,q⟩:=h;cases x with
 | non =>
   cases rx;cases y with
   | non=>cases ry;exact PySem.EqNone.eq_none_none (Bp I q (by simp))
   | bl j=>cases ry;exact PySem.EqNone.eq_none_bool (Bp I q (by simp))
   | int j=>obtain⟨t',rfl⟩:=ry;exact PySem.EqNone.eq_none_int (Bp I q (by simp))
   | str j=>obtain⟨t',rfl⟩:=ry;exact PySem.EqNone.eq_none_str (Bp I q (by simp))
   | _=>exact absurd (show false=true from hs) Bool.false_ne_true
 | bl i =>
   cases rx;cases y with
   | non=>cases ry;exact PySem.EqNone.eq_bool_none (Bp I q (by simp))
   | bl j=>cases ry;exact eq_bool (Bp I q nG)
   | str j=>obtain⟨t',rfl⟩:=ry;exact PySem.EqMixed.eq_bool_str (Bp I q (by simp))
   | _=>exact absurd (show false=true from hs) Bool.false_ne_true
 | int i =>
   obtain⟨t,rfl⟩:=rx;cases y with
   | non=>cases ry;exact PySem.EqNone.eq_int_none (Bp I q (by simp))
   | int j=>obtain⟨t',rfl⟩:=ry;exact eq_int (Bp I q GL)
   | str j=>obtain⟨t',rfl⟩:=ry;exact PySem.EqMixed.eq_int_str (Bp I q (by simp))
   | _=>exact absurd (show false=true from hs) Bool.false_ne_true
 | str i =>
   obtain⟨t,rfl⟩:=rx;cases y with
   | non=>cases ry;exact PySem.EqNone.eq_str_none (Bp I q (by simp))
   | bl j=>cases ry;exact PySem.EqMixed.eq_str_bool (Bp I q (by simp))
   | int j=>obtain⟨t',rfl⟩:=ry;exact PySem.EqMixed.eq_str_int (Bp I q (by simp))
   | str j=>obtain⟨t',rfl⟩:=ry;exact eq_str (Bp I q GK)
   | _=>exact absurd (show false=true from hs) Bool.false_ne_true
 | byt i =>
   obtain⟨t,rfl⟩:=rx;cases y with
   | byt j=>obtain⟨t',rfl⟩:=ry;exact PySem.W.eq_bytes (Bp I q gM)
   | _=>exact absurd (show false=true from hs) Bool.false_ne_true
 | _=>cases y<;>exact absurd (show false=true from hs) Bool.false_ne_true
theorem Lo:OpR X (compareOp .NotEq) rNe:=by
 intro Ac s σ H x y v u Q I rx ry h;obtain⟨hs,q⟩:=h;cases x with
 | non =>
   cases rx;cases y with
   | non=>cases ry;exact PySem.EqNone.ne_none_none (Bp I q (by simp))
   | bl j=>cases ry;exact PySem.EqNone.ne_none_bool (Bp I q (by simp))
   | int j=>obtain⟨t',rfl⟩:=ry;exact PySem.EqNone.ne_none_int (Bp I q (by simp))
   | str j=>obtain⟨t',rfl⟩:=ry;exact PySem.EqNone.ne_none_str (Bp I q (by simp))
   | _=>exact absurd (show false=true from hs) Bool.false_ne_true
 | bl i =>
   cases rx;cases y with
   | non=>cases ry;exact PySem.EqNone.ne_bool_none (Bp I q (by simp))
   | bl j=>cases ry;exact ne_bool (Bp I q (congrArg not nG))
   | str j=>obtain⟨t',rfl⟩:=ry;exact PySem.EqMixed.ne_bool_str (Bp I q (by simp))
   | _=>exact absurd (show false=true from hs) Bool.false_ne_true
 | int i =>
   obtain⟨t,rfl⟩:=rx;cases y with
   | non=>cases ry;exact PySem.EqNone.ne_int_none (Bp I q (by simp))
   | int j=>obtain⟨t',rfl⟩:=ry;exact ne_int (Bp I q (congrArg not GL))
   | str j=>obtain⟨t',rfl⟩:=ry;exact PySem.EqMixed.ne_int_str (Bp I q (by simp))
   | _=>exact absurd (show false=true from hs) Bool.false_ne_true
 | str i =>
   obtain⟨t,rfl⟩:=rx;cases y with
   | non=>cases ry;exact PySem.EqNone.ne_str_none (Bp I q (by simp))
   | bl j=>cases ry;exact PySem.EqMixed.ne_str_bool (Bp I q (by simp))
   | int j=>obtain⟨t',rfl⟩:=ry;exact PySem.EqMixed.ne_str_int (Bp I q (by simp))
   | str j=>obtain⟨t',rfl⟩:=ry;exact ne_str (Bp I q (congrArg not GK))
   | _=>exact absurd (show false=true from hs) Bool.false_ne_true
 | byt i =>
   obtain⟨t,rfl⟩:=rx;cases y with
   | byt j=>obtain⟨t',rfl⟩:=ry;exact PySem.W.ne_bytes (Bp I q (congrArg not gM))
   | _=>exact absurd (show false=true from hs) Bool.false_ne_true
 | _=>cases y<;>exact absurd (show false=true from hs) Bool.false_ne_true
theorem Ij:OpR X (compareOp .Lt) (oU fun i j=>.bl (decide (i<j))):=pH fun _ _ _ _ _ _ _ q=>lt_int q
theorem vF:OpR X (compareOp .LtE) (oU fun i j=>.bl (decide (i<=j))):=pH fun _ _ _ _ _ _ _ q=>le_int q
theorem To:OpR X (compareOp .Gt) (oU fun i j=>.bl (decide (j<i))):=pH fun _ _ _ _ _ _ _ q=>gt_int q
theorem FY:OpR X (compareOp .GtE) (oU fun i j=>.bl (decide (j<=i))):=pH fun _ _ _ _ _ _ _ q=>ge_int q
theorem Pc:OpR X (compareOp .Is) (fun x y H Q=>y=.non/\Q (.bl (decide (x=.non))) H):=by
 intro Ac s σ H x y v u Q I rx ry h;obtain⟨rfl,q⟩:=h;cases ry;refine is_none_gen (Bp I q ?_)
 cases x<;>first
  | (cases rx;rfl)
  | (obtain⟨t,rfl⟩:=rx;rfl)
theorem fY:OpR X (compareOp .IsNot) (fun x y H Q=>y=.non/\Q (.bl (!decide (x=.non))) H):=by
 intro Ac s σ H x y v u Q I rx ry h;obtain⟨rfl,q⟩:=h;cases ry;refine isnot_none_gen (Bp I q ?_)
 cases x<;>first
  | (cases rx;rfl)
  | (obtain⟨t,rfl⟩:=rx;rfl)
theorem Aw(b:Expr){op:CmpOp}(h:op≠.In:=by decide)(h2:op≠.NotIn:=by decide):behindInMarks op b=false:=by
 have e1:(op==CmpOp.In)=false:=by cases op<;>first | rfl | exact absurd rfl h
 have e2:(op==CmpOp.NotIn)=false:=by cases op<;>first | rfl | exact absurd rfl h2
 cases b<;>simp[behindInMarks,e1,e2]
theorem Ec{op:CmpOp}{r:R2}(ho:OpR X (compareOp op) r)(ha:PE X a ta)(hb:PE X b tb)(hm:behindInMarks op b=false):PE X (.Compare a [op] [b] pos) (UQ r ta tb):=by
 intro Ac s σ H Q I h;exact wpAny_Compare1 (tW ha hb I h fun v u s2 x y H2 I2 rx ry q=>ho Ac s2 σ H2 x y v u Q I2 rx ry q) hm
def UP(t:TE):TT:=fun σ H Q=>t σ H fun x H'=>∃k,x=.bl k/\Q k H'
theorem As{op:CmpOp}{r:R2}(ho:OpR X (compareOp op) r)(ha:PE X a ta)(hb:PE X b tb)(hm:behindInMarks op b=false):PT X (.Compare a [op] [b] pos) (UP (UQ r ta tb)):=by
 intro Ac s σ H Q I h
 refine wpAny_isTrue_Compare1 (Bu (ha Ac s σ H _ I h) fun v s1 ⟨x,H1,I1,r1,q1⟩=>Bu (hb Ac s1 σ H1 _ I1 q1) fun u s2 ⟨y,H2,I2,r2,q2⟩ =>
  Bu (ho Ac s2 σ H2 x y v u _ I2 r1 r2 q2) fun c s3 ⟨z,H3,I3,r3,k,e,q3⟩=>?_) hm
 subst e;cases r3;exact wpAny_truthy_bool ⟨H3,I3,q3⟩
def rL(r r':R2)(ta tb tc:TE):TE:=fun σ H Q=>ta σ H fun x H1=>tb σ H1 fun y H2=>r x y H2 fun z H3=>∃k,z=.bl k ∧
 (if k=true then tc σ H3 fun w' H4=>r' y w' H4 Q else Q (.bl false) H3)
theorem LO{op op':CmpOp}{r r':R2}(ho:OpR X (compareOp op) r)(ho':OpR X (compareOp op') r')(ha:PE X a ta)(hb:PE X b tb)(hc:PE X c tc)
 (hm:lastMarks [op,op'] [b,c]=false:=by with_unfolding_all rfl):PE X (.Compare a [op,op'] [b,c] pos) (rL r r' ta tb tc):=by
 intro Ac s σ H Q I h
 refine Compare_chain (Bu (ha Ac s σ H _ I h) fun v s1 ⟨x,H1,I1,r1,q1⟩=>chain_link (Bu (hb Ac s1 σ H1 _ I1 q1) fun u s2 ⟨y,H2,I2,r2,q2⟩ =>
  Bu (ho Ac s2 σ H2 x y v u _ I2 r1 r2 q2) fun d s3 ⟨z,H3,I3,r3,k,e,q3⟩=>?_)) hm
 subst e;cases r3;refine wpAny_truthy_bool ?_;cases k with
 | false=>exact ite_ff ⟨.bl false,H3,I3,rfl,q3⟩
 | true=>exact ite_tt (chain_last (Bu (hc Ac s3 σ H3 _ I3 q3) fun w' s4 ⟨z',H4,I4,r4,q4⟩=>ho' Ac s4 σ H4 y z' u w' Q I4 r2 r4 q4))
theorem aB:(sizeLine:Nat)<2 ^ 63:=by rw[sizeLine_eq];decide
theorem Md{x:V}{us:List Value}(r:Vals [x] us):∃u,us=[u]/\RelV x u:=by
 cases r with
 | cons r1 r2=>cases r2;exact⟨_,rfl,r1⟩
theorem b6{x y:V}{us:List Value}(r:Vals [x,y] us):∃u w',us=[u,w']/\RelV x u/\RelV y w':=by
 cases r with
 | cons r1 r2 =>
   cases r2 with
   | cons r3 r4=>cases r4;exact⟨_,_,rfl,r1,r3⟩
theorem j6(hc:X.calm=true):Ei X (.builtin "max") (fun xs H Q=>∃i j,xs=[.int i,.int j]/\Q (.int (if j > i then j else i)) H):=by
 intro Ac s σ H xs us Q I r h;obtain⟨i,j,rfl,q⟩:=h;obtain⟨u,w',rfl,⟨t,rfl⟩,⟨t',rfl⟩⟩:=b6 r;refine max_two_ints (I.ok.hd hc) fun h' tk k=>⟨_,H,I.kept k,?_,q⟩
 by_cases hj:j > i
 . rw[if_pos hj,if_pos hj];exact⟨_,rfl⟩
 . rw[if_neg hj,if_neg hj];exact⟨_,rfl⟩
theorem JW:Ei X (.type "int") (fun xs H Q=>(∃i,xs=[.int i]/\Q (.int i) H)\/∃k,xs=[.bl k]/\Q (.int (if k then 1 else 0)) H):=by
 intro Ac s σ H xs us Q I r h;rcases h with⟨i,rfl,q⟩|⟨k,rfl,q⟩
 . obtain⟨u,rfl,t,rfl⟩:=Md r;exact call_int_int ⟨.int i,H,I,⟨_,rfl⟩,q⟩
 . obtain⟨u,rfl,r1⟩:=Md r;cases r1;exact call_int_bool ⟨.int (if k then 1 else 0),H,I.tok _,⟨_,rfl⟩,q⟩
end
structure fP(h:Heap)(x dx C:Addr)(mA:Str->Option Value):Prop where
 obj:h.get? x=some (PySem.W.instObj C dx)
 ns:h.Ns1 dx mA
 ne:dx≠x
theorem iW{h:Heap}{dx:Addr}{mA:Str->Option Value}(n:h.Ns1 dx mA):∃od,h.get? dx=some od/\∀name,PySem.W.lookIn name od=some (mA name):=by
 obtain⟨o,es,ep,ho,hd,hk,_,hm⟩:=n;refine⟨o,ho,fun name=>?_⟩;have e:=hm name;unfold nsFind findBy at e;rw[←Array.find?_toList]at e;unfold PySem.W.lookIn;rw[hd];dsimp only;split
 . rename_i y q
   rw[q]at e;exact congrArg some e
 . rename_i q
   rw[q]at e
   have a:es.toList.any (·.refKey)=false:=by
    rw[List.any_eq_false];intro y hy;obtain⟨z,t,hkey⟩:=hk y (Array.mem_toList_iff.mp hy);simp[DictEntry.refKey,hkey]
   have a':¬es.toList.any (·.refKey)=true:=by rw[a];exact Bool.false_ne_true
   rw[if_neg a'];exact congrArg some e
theorem fP.look{h:Heap}{x dx C:Addr}{mA:Str->Option Value}(I:fP h x dx C mA):∃od,PySem.W.InstAt h x (PySem.W.instObj C dx) C (some od)/\∀name,PySem.W.lookIn name od=some (mA name) :=
 let ⟨od,ho,hl⟩:=iW I.ns
 ⟨od,⟨I.obj,rfl,rfl,ho⟩,hl⟩
section
variable{prog:Program}{w:World}{A:Around}{E:Value->Shared->Prop}{s:Shared}{K:W.Frag}{x dx C f:Addr}{mA:Str->Option Value}{name:Str}{v:Value}
theorem pZ{expr:Bool}{Q:Value->Shared->Prop}(X:K.In s.heap)(I:fP s.heap x dx C mA)(hg:PySem.W.plainGet K C name=true)(hh:PySem.W.hasDictIn K C=true)
 (ha:W.findIn K (.ref C) name=some none) (hv:mA name=some v) (hv':PySem.W.handedIn v=true) (h:Q v { s with toks:=s.toks+1 }) :
 wpAny (model prog w) A (getAttr (.ref x) name expr) Q E s:=by
 obtain⟨od,J,hl⟩:=I.look;exact PySem.W.get_value X J (PySem.W.plainGet_of hg).1 (PySem.W.findObj_own hh ha rfl (by rw[hl,hv])) hv' h
theorem MX{pl:Sem Bool}{Q:Value × List Value->Shared->Prop}(X:K.In s.heap)(I:fP s.heap x dx C mA)(hg:PySem.W.plainGet K C name=true)
 (hf:W.findIn K (.ref C) name=some (some (.ref f))) (ht:W.isFn K (.ref f)=true) (hv:mA name=none) (h:Q (.ref f,[.ref x]) s) :
 wpAny (model prog w) A (getMethod (.ref x) name pl) Q E s:=by
 obtain⟨od,J,hl⟩:=I.look;exact PySem.W.method_fn X J (PySem.W.plainGet_of hg).1 (PySem.W.plainGet_of hg).2 hf (beq_iff_eq.mp ht) (by show(PySem.W.lookIn name od).map (·.isSome)=some false;rw[hl,hv];rfl) h
theorem OS{ns:List Str}{Q:Unit->Shared->Prop}(X:K.In s.heap)(I:fP s.heap x dx C mA)
 (hs:W.findIn K (.ref C) "__setattr__"=some (some (.builtin "object.__setattr__"))) (hp:PySem.W.plainOver K C=true) (ht:PySem.W.takerIn K C name=some none) (hh:PySem.W.hasDictIn K C=true)
 (hw:PySem.Within mA ns) (hsz:ns.length<=sizeLine)
 (h:∀h',fP h' x dx C (fun y=>if y=name then some v else mA y)->Heap.SameBut dx s.heap h'->Q () { s with heap:=h',toks:=s.toks+2 }) :
 wpAny (model prog w) A (setAttr (.ref x) name v) Q E s:=by
 obtain⟨od,J,hl⟩:=I.look;refine PySem.W.set_plain X J hs (PySem.W.osa_open (s:={ s with toks:=s.toks+1 }) (r:=none) X J hp ht fun b=>?_);obtain⟨cd,hc,hd'⟩:=PySem.W.any_some hh;have hx:s.heap.get? x=some ⟨.ref C,some dx,.plain,#[]⟩:=I.obj;refine wpAny_bind (wpAny_pure (wpAny_bind (wpAny_bind (wpAny_loadPart hx (wpAny_bind (PySem.W.Looks.here (s:={ s with toks:=s.toks+1 }) (PySem.W.looks_clsIn X hc) ?_))))));rw[hd'];refine wpAny_pure (a:=some dx) (wpAny_bind (wpAny_pure (wpAny_bind ?_)));refine wpAny_nsSet1 (s:={ s with toks:=s.toks+1 }) I.ns fun h' hn2 hs2=>?_;obtain⟨oD,esD,epD,uH,ZO,WC⟩:=hn2.count (PySem.Within.cons name v hw);refine wpAny_bind (wpAny_lookBehind uH (by rw[ZO];exact pastItsLine_dict (Nat.le_trans WC (by rw[List.length_cons];omega))) ?_);exact wpAny_pure (h _ ⟨(hs2.2 _ (Ne.symm I.ne)).trans I.obj,hn2,I.ne⟩ hs2)
theorem MG{R:Result->Shared->Prop}{vs:List Value}{kw:List (Str × Value)}(X:K.In s.heap)(hm:PySem.W.makesIn K C=true)
 (hi:W.findIn K (.ref C) "__init__"=some (some (.ref f))) (hf:PySem.W.typeIn K (.ref f)=some (.type "function"))
 (h:codeAny (model prog w) (A.under (.builtin "type.__call__" ⟨.ref C::vs,kw⟩)) (.call (.ref f) ⟨.ref (s.heap.objs.size+1)::vs,kw⟩) (PySem.W.InitBack (s.heap.objs.size+1) R)
   { s with heap:=(s.heap.push PySem.W.emptyDict).push (PySem.W.instObj C s.heap.objs.size) }) :
 codeAny (model prog w) A (.call (.ref C) ⟨vs,kw⟩) R s:=by
 obtain⟨hh,g,d,t,os⟩:=s;exact PySem.W.make_core (PySem.W.makes_of X hm) (PySem.W.looks_findIn X hi) (fun self=>PySem.W.bind_fn X self hf) (.inl rfl) h
end
def putF(f:Str)(v:V):List (Str × V)->List (Str × V)
 | []=>[(f,v)]
 | (g,x)::r=>if g=f then(g,v)::r else(g,x)::putF f v r
theorem Im(f g:Str)(v:V):∀fs:List (Str × V),(putF f v fs).lookup g=if g=f then some v else fs.lookup g
 | []=>by
   show List.lookup g [(f,v)]=_;by_cases h:g=f
   . have hb:(g==f)=true:=beq_iff_eq.mpr h;simp only[List.lookup,hb,if_pos h]
   . have hb:(g==f)=false:=beq_eq_false_iff_ne.mpr h;simp only[List.lookup,hb,if_neg h]
 | (k,x)::r=>by
   have ih:=Im f g v r;rw[show putF f v ((k,x)::r)=(if k=f then(k,v)::r else(k,x)::putF f v r) from rfl];by_cases hk:k=f
   . rw[if_pos hk];by_cases h:g=k
     . have hb:(g==k)=true:=beq_iff_eq.mpr h;simp only[List.lookup,hb,if_pos (h.trans hk)]
     . have hb:(g==k)=false:=beq_eq_false_iff_ne.mpr h;simp only[List.lookup,hb,if_neg (fun e:g=f=>h (e.trans hk.symm))]
   . rw[if_neg hk];by_cases h:g=k
     . have hb:(g==k)=true:=beq_iff_eq.mpr h;simp only[List.lookup,hb,if_neg (fun e:g=f=>hk (h.symm.trans e))]
     . have hb:(g==k)=false:=beq_eq_false_iff_ne.mpr h;simp only[List.lookup,hb];exact ih
theorem Sn(f:Str)(v:V):∀fs:List (Str × V),f∈(putF f v fs).map (·.1)/\∀g,g∈fs.map (·.1)->g∈(putF f v fs).map (·.1)
 | []=>⟨by simp[putF],fun g h=>by simp at h⟩
 | (k,x)::r=>by
   obtain⟨i1,i2⟩:=Sn f v r;rw[show putF f v ((k,x)::r)=(if k=f then(k,v)::r else(k,x)::putF f v r) from rfl];by_cases hk:k=f
   . rw[if_pos hk];subst hk;exact⟨by simp,fun g h=>by simpa using h⟩
   . rw[if_neg hk];refine⟨?_,fun g h=>?_⟩
     . rw[List.map_cons];exact List.mem_cons_of_mem _ i1
     . rw[List.map_cons]at h ⊢;rcases List.mem_cons.mp h with e | e
       . exact List.mem_cons.mpr (.inl e)
       . exact List.mem_cons_of_mem _ (i2 g e)
theorem M0(f:Str)(v:V):∀fs:List (Str × V),(putF f v fs).length<=fs.length+1
 | []=>by simp[putF]
 | (k,x)::r=>by
   have ih:=M0 f v r;rw[show putF f v ((k,x)::r)=(if k=f then(k,v)::r else(k,x)::putF f v r) from rfl];by_cases hk:k=f
   . rw[if_pos hk,List.length_cons,List.length_cons];omega
   . rw[if_neg hk,List.length_cons,List.length_cons];omega
theorem Jc.some_of{v:V}{o:Option Value}(r:Jc (some v) o):∃u,o=some u/\RelV v u:=by
 cases o with
 | none=>exact(show False from r).elim
 | some u=>exact⟨u,rfl,r⟩
theorem Jc.none_of{o:Option Value}(r:Jc none o):o=none:=by
 cases o with
 | none=>rfl
 | some u=>exact(show False from r).elim
theorem e8{v:V}{u:Value}(r:RelV v u):PySem.W.handedIn u=true:=by
 cases v with
 | non=>cases (show u=Value.none from r);rfl
 | bl b=>cases (show u=Value.bool b from r);rfl
 | int i=>obtain⟨t,e⟩:=(show ∃t,u=Value.int i t from r);cases e;rfl
 | str x=>obtain⟨t,e⟩:=(show ∃t,u=Value.str x t from r);cases e;rfl
 | byt b=>obtain⟨t,e⟩:=(show ∃t,u=Value.bytes b t from r);cases e;rfl
 | flt b=>obtain⟨t,e⟩:=(show ∃t,u=Value.float b t from r);cases e;rfl
 | ref a=>cases (show u=Value.ref a from r);rfl
 | ty n=>cases (show u=Value.type n from r);rfl
section
variable{P:Program}{w:World}{H H':Hp}{h h':Heap}{a C dx:Addr}{fs fs':List (Str × V)}
theorem AH(hok:L4 P w H h)(e:H a=some (.ins C dx fs)):∃mA,fP h a dx C mA/\(∀f,Jc (fs.lookup f) (mA f))/\PySem.Within mA (fs.map (·.1))/\fs.length<=1000/\H dx=some (.own a):=by
 obtain⟨d,z,ne,ob,mA,n,r,q⟩:=(show ObjOk P w H h a (.ins C dx fs) from hok a _ e)
 exact⟨mA,⟨ob,n,ne⟩,r,q,z,d⟩
end
structure Cls(K:W.Frag)(C:Addr):Prop where
 pg:PySem.W.plainGet K C Str.empty=true
 hd:PySem.W.hasDictIn K C=true
 po:PySem.W.plainOver K C=true
 sa:W.findIn K (.ref C) "__setattr__"=some (some (.builtin "object.__setattr__"))
theorem Cls.get{K:W.Frag}{C:Addr}(c:Cls K C)(f:Str):PySem.W.plainGet K C f=true:=c.pg
def NoAttr(K:W.Frag)(C:Addr)(f:Str):Prop:=W.findIn K (.ref C) f=some none
theorem NoAttr.taker{K:W.Frag}{C:Addr}{f:Str}(n:NoAttr K C f):PySem.W.takerIn K C f=some none:=by
 unfold PySem.W.takerIn;rw[show W.findIn K (.ref C) f=some none from n];rfl
structure FP(K:W.Frag)(C:Addr)(m:Str)(f:Addr):Prop where
 at_:W.findIn K (.ref C) m=some (some (.ref f))
 fn:W.isFn K (.ref f)=true
 kp:W.keepIn K (.ref f)=true
section
variable{X:Cx}{Ac:LAObj}{σ:St}{H:Hp}{s:Shared}{a C dx:Addr}{fs:List (Str × V)}{f:Str}{v:V}{A:Around}{E:Value->Shared->Prop}
theorem eY{b:Bool}{Q:Value->Shared->Prop}(I:Inv X Ac σ H s)(e:H a=some (.ins C dx fs))(c:Cls X.K C)(n:NoAttr X.K C f)(l:fs.lookup f=some v)
 (h:∀u s',Inv X Ac σ H s'->RelV v u->Q u s'):wpAny (model X.prog X.w) A (getAttr (.ref a) f b) Q E s:=by
 obtain⟨mA,O,r,_,_,_⟩:=AH I.hok e;obtain⟨u,hu,ru⟩:=Jc.some_of (v:=v) (o:=mA f) (by rw[←l];exact r f);exact pZ I.kIn O (c.get f) c.hd n hu (e8 ru) (h u _ (I.tok _) ru)
theorem K6{m:Str}{g:Addr}{pl:Sem Bool}{Q:Value × List Value->Shared->Prop}(I:Inv X Ac σ H s)(e:H a=some (.ins C dx fs))(c:Cls X.K C)(k:FP X.K C m g)(l:fs.lookup m=none)
 (h:Q (.ref g,[.ref a]) s):wpAny (model X.prog X.w) A (getMethod (.ref a) m pl) Q E s:=by
 obtain⟨mA,O,r,_,_,_⟩:=AH I.hok e;have hn:mA m=none:=Jc.none_of (by rw[←l];exact r m);exact MX I.kIn O (c.get m) k.at_ k.fn hn h
theorem DP{y:V}{u:Value}{Q:Unit->Shared->Prop}(I:Inv X Ac σ H s)(e:H a=some (.ins C dx fs))(c:Cls X.K C)(n:NoAttr X.K C f)(hl:fs.length<1000)(ry:RelV y u)
 (h:∀s',Inv X Ac σ (upd H a (.ins C dx (putF f y fs))) s'->Q () s'):wpAny (model X.prog X.w) A (setAttr (.ref a) f u) Q E s:=by
 obtain⟨mA,O,r,wi,_,ho⟩:=AH I.hok e;have hz:(fs.map (·.1)).length<=sizeLine:=by rw[List.length_map,sizeLine_eq];omega
 refine OS I.kIn O c.sa c.po n.taker c.hd wi hz fun h' O' sb=>h _ ?_;have hd:∃o,h'.get? dx=some o:=let ⟨o,_,_,e',_⟩:=O'.ns;⟨o,e'⟩
 refine I.write (x:=a) (e:=dx) (by rw[e];exact True.intro) (.inr ho) (fun b q hb z=>(sb.2 b hb).trans z) hd ?_;refine⟨by rw[Ae O.ne];exact ho,?_,O.ne,O'.obj,_,O'.ns,fun g=>?_,fun g hg=>?_⟩
 . have:=M0 f y fs;omega
 . show Jc ((putF f y fs).lookup g) (if g=f then some u else mA g);rw[Im];by_cases q:g=f
   . rw[if_pos q,if_pos q];exact ry
   . rw[if_neg q,if_neg q];exact r g
 . by_cases q:g=f
   . rw[q];exact(Sn f y fs).1
   . refine(Sn f y fs).2 g (wi g fun z=>hg ?_);show(if g=f then some u else mA g)=none;rw[if_neg q];exact z
theorem Inv.made(I:Inv X Ac σ H s):Inv X Ac σ (upd (upd H s.heap.objs.size (.own (s.heap.objs.size+1))) (s.heap.objs.size+1) (.ins C s.heap.objs.size []))
 { s with heap:=(s.heap.push PySem.W.emptyDict).push (PySem.W.instObj C s.heap.objs.size) }:=by
 have e1:(s.heap.push PySem.W.emptyDict).get? s.heap.objs.size=some PySem.W.emptyDict:=Heap.get?_push_size s.heap rfl
 have e2:((s.heap.push PySem.W.emptyDict).push (PySem.W.instObj C s.heap.objs.size)).get? (s.heap.objs.size+1)=some (PySem.W.instObj C s.heap.objs.size):=by
  have:=Heap.get?_push_size (s.heap.push PySem.W.emptyDict) (o:=PySem.W.instObj C s.heap.objs.size) rfl
  rwa [Heap.size_push]at this
 have e3:(s.heap.push PySem.W.emptyDict).Ns s.heap.objs.size (fun _=>none):=⟨PySem.W.emptyDict,#[],_,e1,rfl,(fun e he=>absurd he (by simp)),fun _=>rfl⟩
 have I1:=I.laid (a:=s.heap.objs.size) (o:=.own (s.heap.objs.size+1)) (h':=s.heap.push PySem.W.emptyDict) (t':=s.toks) (fun b u q=>Heap.get?_push_of_some _ q) (Nat.le_refl _) ⟨_,e1⟩;refine I1.laid (a:=s.heap.objs.size+1) (o:=.ins C s.heap.objs.size []) (t':=s.toks) (fun b u q=>Heap.get?_push_of_some _ q) (Nat.le_of_eq (Heap.size_push _ _)) ?_;have ne:s.heap.objs.size≠s.heap.objs.size+1:=Nat.ne_of_lt (Nat.lt_succ_self _);refine⟨by rw[Ae ne,Ad],Nat.zero_le _,ne,e2,fun _=>none,(Heap.Ns1.of_empty e3).at fun o q=>Heap.get?_push_of_some _ q,fun _=>True.intro,fun y hy=>absurd rfl hy⟩
theorem GQ{prog:Program}{w:World}{env:Env}{e:Expr}{f:Str}{pos:Pos}{s:Shared}{Q:Value->Shared->Prop}(hb:attributeBase e f env (eval e env)=eval e env)
 (h:wpAny (model prog w) A (eval e env) (fun o s₁=>wpAny (model prog w) A (getAttr o f true) Q E s₁) E s):wpAny (model prog w) A (eval (.Attribute e f pos) env) Q E s :=
 Attribute_any_ h (by rw[arm_eval_Attribute,hb])
end
def tFld(K:W.Frag)(ta:TE)(f:Str):TE:=fun σ H Q=>ta σ H fun x H1=>∃a C dx fs v,x=.ref a/\H1 a=some (.ins C dx fs)/\Cls K C/\NoAttr K C f/\fs.lookup f=some v/\Q v H1
def UY(K:W.Frag)(ta tv:TE)(f:Str):TS:=fun D σ H=>tv σ H fun y H1=>ta σ H1 fun x H2=>∃a C dx fs,x=.ref a/\H2 a=some (.ins C dx fs)/\Cls K C/\NoAttr K C f/\fs.length<1000 ∧
 D.nx σ (upd H2 a (.ins C dx (putF f y fs)))
section
variable{X:Cx}{o e value:Expr}{f:Str}{pos pos' tpos:Pos}{ta tv:TE}
theorem RX(he:PE X e ta)(hb:attributeBase e f X.env (eval e X.env)=eval e X.env):PE X (.Attribute e f pos) (tFld X.K ta f):=by
 intro Ac s σ H Q I h;refine GQ hb (Bu (he Ac s σ H _ I h) fun u s1 ⟨x,H1,I1,rx,a,C,dx,fs,v,ex,ea,c,n,l,q⟩=>?_);subst ex;obtain rfl:u=Value.ref a:=rx;exact eY I1 ea c n l fun u' s2 I2 ru=>⟨v,H1,I2,ru,q⟩
theorem rS(ha:PE X o ta)(hv:PE X value tv)(hs:swapsWith value (some (.Attribute o f pos')) pos.line X.env=pure false):PS X (.Assign [.Attribute o f pos'] value pos) (UY X.K ta tv f):=by
 intro Ac s σ H D I h;refine plainObj_wpAny_Assign_Attribute (Bu (hv Ac s σ H _ I h) fun u s1 ⟨y,H1,I1,ry,q⟩=>Bu (ha Ac s1 σ H1 _ I1 q) fun ov s2 ⟨x,H2,I2,rx,a,C,dx,fs,ex,ea,c,n,l,q2⟩=>?_) hs;subst ex;obtain rfl:ov=Value.ref a:=rx;exact DP I2 ea c n l ry fun s3 I3=>⟨σ,_,I3,q2⟩
theorem qQ{pl:Sem Bool}{m:Str}{apos:Pos}{args:List Expr}{Ac:LAObj}{s:Shared}{σ:St}{H:Hp}{Q:Value->Shared->Prop}{te:TE}(he:PE X e te)(I:Inv X Ac σ H s)
 (h:te σ H fun x H1=>∃a C dx fs g,x=.ref a/\H1 a=some (.ins C dx fs)/\Cls X.K C/\FP X.K C m g/\fs.lookup m=none ∧
   ∀s1,Inv X Ac σ H1 s1->wpAny (model X.prog X.w) X.A (callWith pos (.ref g) [.ref a] (backTo pos (starEach args X.env)) (backToKw pos (keywordEach [] X.env))) Q X.xe s1)
 (ht:eval (.Call (.Attribute e m apos) args [] pos) X.env=(do
   let ov ←eval e X.env
   standAt apos.atName
   let (f,first) ←holding [ov] (getMethod ov m pl)
   callWith pos f first (backTo pos (starEach args X.env)) (backToKw pos (keywordEach [] X.env)))) :
 wpAny (model X.prog X.w) X.A (eval (.Call (.Attribute e m apos) args [] pos) X.env) Q X.xe s:=by
 refine PySem.W.methodCall_KW (pl:=pl) (Bu (he Ac s σ H _ I h) fun u s1 ⟨x,H1,I1,rx,a,C,dx,fs,g,ex,ea,c,k,l,q⟩=>?_) ht;subst ex;obtain rfl:u=Value.ref a:=rx;exact K6 I1 ea c k l (q s1 I1)
end
section
variable{X:Cx}{Ac:LAObj}{σ:St}{H:Hp}{s:Shared}{A:Around}{E:Value->Shared->Prop}{Q:Value->Shared->Prop}{c:Value}{b:Bool}
end
structure Di(k:Nat)(A:Around):Prop where
 hd:A.handled=none
 dp:A.depth+3*k+5<recursionLimit
 un:A.units+16*k+200<cLine
 gd:A.guards=some []
theorem Di.mono{j k:Nat}{A:Around}(r:Di k A)(h:j<=k):Di j A:=⟨r.hd,by have:=r.dp;omega,by have:=r.un;omega,r.gd⟩
theorem Di.deeper{k:Nat}{A:Around}(r:Di (k+1) A)(env:Env):Di k (A.deeper env) :=
 ⟨r.hd,by have:=r.dp;show A.depth+1+3*k+5<_;omega,by have:=r.un;show A.units+3+16*k+200<_;omega,r.gd⟩
theorem EO{A:Around}{C:Addr}{us:List Value}{kw:List (Str × Value)}:(A.under (.builtin "type.__call__" ⟨.ref C::us,kw⟩)).depth=A.depth+1:=by
 first | rfl | simp[Around.under,Code.weight,Code.isCreation,Code.isGuard,Code.isCaller,Code.frames,Code.isFrame,guardIds]
theorem bZ{A:Around}{C:Addr}{us:List Value}{kw:List (Str × Value)}:(A.under (.builtin "type.__call__" ⟨.ref C::us,kw⟩)).guards=A.guards:=by
 first | rfl | simp[Around.under,Code.weight,Code.isCreation,Code.isGuard,Code.isCaller,Code.frames,Code.isFrame,guardIds]
theorem eO{A:Around}{C:Addr}{us:List Value}{kw:List (Str × Value)}:(A.under (.builtin "type.__call__" ⟨.ref C::us,kw⟩)).units=A.units+1:=by
 first | rfl | simp[Around.under,Code.cUnits,Code.frames,Code.isFrame]
theorem Di.make{k:Nat}{A:Around}(r:Di (k+1) A)(C:Addr)(us:List Value)(kw:List (Str × Value)):Di k (A.under (.builtin "type.__call__" ⟨.ref C::us,kw⟩)) :=
 ⟨r.hd,by have:=r.dp;rw[EO];omega,by have:=r.un;rw[eO];omega,by rw[bZ];exact r.gd⟩
theorem Di.depth{k:Nat}{A:Around}(r:Di k A):A.depth<recursionLimit:=by have:=r.dp;omega
theorem Di.units{k:Nat}{A:Around}(r:Di k A):A.units+64<cLine:=by have:=r.un;omega
theorem Di.u8{k:Nat}{A:Around}(h:Di k A):A.units+8<cLine:=by
 have:=h.units;omega
def oO:TA:=fun _ H Q=>Q [] H
def QJ(ta:TE)(tr:TA):TA:=fun σ H Q=>ta σ H fun x H1=>tr σ H1 fun xs H2=>Q (x::xs) H2
section
variable{X:Cx}{e:Expr}{es:List Expr}{te:TE}{t:TA}{pos:Pos}
theorem Af:PA X [] oO:=fun _ _ _ _ H Q I h=>Calls.spliced_nil ⟨[],H,I,.nil,h⟩
theorem Aa(ha:PE X e te)(hr:PA X es t)(hs:starEach (e::es) X.env=(false,eval e X.env)::starEach es X.env:=by rfl):PA X (e::es) (QJ te t):=by
 intro pos Ac s σ H Q I h;rw[hs];show wpAny _ _ (spliced ((false,eval e X.env)::backTo pos (starEach es X.env))) _ _ s;refine Calls.spliced_cons (Bu (ha Ac s σ H _ I h) fun u s1 ⟨x,H1,I1,r1,q1⟩=>?_);exact Bu (hr pos Ac s1 σ H1 _ I1 q1) fun us s2 ⟨xs,H2,I2,r2,q2⟩=>⟨x::xs,H2,I2,.cons r1 r2,q2⟩
def uP(t:TA):TE:=fun σ H Q=>t σ H fun xs H1=>xs.length<=sizeLine/\∀p,H1 p=none->Q (.ref p) (upd H1 p (.tup xs))
def YK(t:TA):TE:=fun σ H Q=>t σ H fun xs H1=>xs.length<=sizeLine/\∀p,H1 p=none->Q (.ref p) (upd H1 p (.lst xs))
theorem By{x1}(h:PA X es t):PE X (.Tuple es x1 pos) (uP t):=by
 intro Ac s σ H Q I hq;refine wpAny_Tuple_spliced (Bu (h pos Ac s σ H _ I hq) fun us s1 ⟨xs,H1,I1,r,z,q⟩=>⟨by rw[←r.length];exact z,?_⟩);have hf:H1 s1.heap.objs.size=none:=I1.hok.fresh (Nat.le_refl _);refine⟨.ref s1.heap.objs.size,upd H1 s1.heap.objs.size (.tup xs),I1.laid (t':=s1.toks) (fun b u e=>Heap.get?_push_of_some _ e) (Nat.le_refl _) ?_,rfl,q _ hf⟩;exact⟨z,us,r,⟨_,Heap.get?_push_size _ rfl,rfl,rfl,_,rfl⟩⟩
theorem Eg(h:PA X es t):PE X (.List es pos) (YK t):=by
 intro Ac s σ H Q I hq;refine wpAny_List_spliced (Bu (h pos Ac s σ H _ I hq) fun us s1 ⟨xs,H1,I1,r,z,q⟩=>⟨by rw[←r.length];exact z,?_⟩);have hf:H1 s1.heap.objs.size=none:=I1.hok.fresh (Nat.le_refl _);refine⟨.ref s1.heap.objs.size,upd H1 s1.heap.objs.size (.lst xs),I1.laid (t':=s1.toks) (fun b u e=>Heap.get?_push_of_some _ e) (Nat.le_refl _) ?_,rfl,q _ hf⟩;exact⟨z,us,0,r,Heap.get?_push_size _ rfl⟩
end
abbrev Sp:=List V->Hp->VK->XK->Prop
abbrev KJ:=List Env->Hp->Shared->XK->Value->Shared->Prop
structure fQ(P:Program)(w:World)(K:W.Frag)(mg:Str->Option Value)(base:Heap)(A:Around)(outer:List Env)(s:Shared)(H:Hp):Prop where
 frames:A.frames=some outer
 mod:Mod K mg base
 bs:∀b o,base.get? b=some o->s.heap.get? b=some o/\H b=none
 bsz:base.objs.size<=s.heap.objs.size
 funs:s.heap.FunFrames base outer
 frf:∀b∈frs outer,H b=none
 hok:L4 P w H s.heap
 bare:AllBare s.gens
def CE(outer:List Env)(P:Program)(w:World)(H:Hp)(s:Shared)(Q:VK)(u:Value)(s':Shared):Prop :=
 ∃v H',s'.os=s.os/\AllBare s'.gens/\Un (frs outer) [] H H' s.heap s'.heap/\L4 P w H' s'.heap/\RelV v u/\Q v H'
def CR(CX:KJ)(outer:List Env)(P:Program)(w:World)(H:Hp)(s:Shared)(Q:VK)(E:XK)(r:Result)(s':Shared):Prop :=
 match r with
 | .ok (.ret u)=>CE outer P w H s Q u s'
 | .ok _=>False
 | .error e=>CX outer H s E e s'
structure Bj(P:Program)(w:World)(K:W.Frag)(mg:Str->Option Value)(base:Heap)(CX:KJ)(k:Nat)(f:Addr)(fd:FuncData)(ps:List Str)(sp:Sp):Prop where
 len:∀vs H Q E,sp vs H Q E->vs.length=ps.length
 run:∀(A:Around) (outer:List Env) (s:Shared) (H:Hp) (args:Args) (us:List Value) (vs:List V) (Q:VK) (E:XK),Di k A->fQ P w K mg base A outer s H->BindsTo s fd args (ps.zip us)->Vals vs us->sp vs H Q E →
  codeAny (model P w) A (.call (.ref f) args) (CR CX outer P w H s Q E) s
theorem fQ.make{P:Program}{w:World}{K:W.Frag}{mg:Str->Option Value}{base:Heap}{A:Around}{outer:List Env}{s:Shared}{H:Hp}(e:fQ P w K mg base A outer s H)(C:Addr)(us:List Value)(kw:List (Str × Value)) :
 fQ P w K mg base (A.under (.builtin "type.__call__" ⟨.ref C::us,kw⟩)) outer s H:=⟨by first | exact e.frames | (simpa[Around.under,Code.envs,Code.isFrame,pushEnvs]using e.frames),e.mod,e.bs,e.bsz,e.funs,e.frf,e.hok,e.bare⟩
section
variable{X:Cx}{Ac:LAObj}{σ:St}{H:Hp}{s s':Shared}
theorem Inv.env0(I:Inv X Ac σ H s):fQ X.prog X.w X.K X.mg X.base X.A X.stack s H :=
 ⟨I.ok.frames,I.ok.mod,I.bs,Nat.le_trans I.ok.bsz I.sz,I.stack,I.stkFree,I.hok,I.bare⟩
theorem Inv.after{Q:VK}{u:Value}(I:Inv X Ac σ H s)(h:CE X.stack X.prog X.w H s Q u s'):EP X Ac σ Q u s':=by
 obtain⟨v,H',os,bare,un,hok,r,q⟩:=h;obtain⟨hh,g,d,t,os'⟩:=s';obtain rfl:os'=s.os:=os;exact⟨v,H',I.call (h':=hh) (g':=g) (d':=d) (t':=t) (ch:=[]) un hok bare (fun b z=>absurd z (by simp)),r,q⟩
end
def tCall(sp:Sp)(dvs:List V)(E:XK)(t:TA):TE:=fun σ H Q=>t σ H fun vs H1=>sp (vs++dvs) H1 Q E
def bD(C:Addr)(m:Str)(sp:Sp)(dvs:List V)(E:XK)(ta:TE)(t:TA):TE:=fun σ H Q=>ta σ H fun x H1=>∃a dx fs,x=.ref a/\H1 a=some (.ins C dx fs)/\fs.lookup m=none ∧
 t σ H1 fun vs H2=>sp (x::(vs++dvs)) H2 Q E
def QI(C:Addr)(sp:Sp)(dvs:List V)(E:XK)(t:TA):TE:=fun σ H Q=>t σ H fun vs H1=>∀x dx,H1 x=none->H1 dx=none->dx≠x →
 sp (.ref x::(vs++dvs)) (upd (upd H1 dx (.own x)) x (.ins C dx [])) (fun v H2=>v=.non/\Q (.ref x) H2) E
def Ey(K:W.Frag)(fd:FuncData)(ps:List Str)(ds:List Value):Prop :=
 ∀(s:Shared) (us:List Value),K.In s.heap->(us++ds).length=ps.length->BindsTo s fd ⟨us,[]⟩ (ps.zip (us++ds))
theorem Ey.all{K:W.Frag}{fd:FuncData}{ps:List Str}(h:∀us:List Value,us.length=ps.length->bindArgs fd ⟨us,[]⟩=pure (ps.zip us)):Ey K fd ps []:=fun s us _ hl=>by
 rw[List.append_nil]at hl ⊢;exact .of_eq (h us hl)
def P0(CX:KJ)(X:Cx)(E:XK):Prop:=∀(Ac:LAObj) (σ:St) (H:Hp) (s:Shared) (e:Value) (s':Shared),Inv X Ac σ H s->CX X.stack H s E e s'->X.xe e s'
section
variable{X:Cx}{CX:KJ}{k:Nat}{f C:Addr}{fd:FuncData}{ps:List Str}{sp:Sp}{dvs:List V}{ds:List Value}{E:XK}{x m:Str}{p pos apos:Pos}{e o:Expr}{es:List Expr}{ta:TE}{t:TA}
theorem dS{Ac:LAObj}{σ:St}{H:Hp}{s:Shared}{Q:VK}{us:List Value}{vs:List V}(F:Bj X.prog X.w X.K X.mg X.base CX k f fd ps sp)(hr:Di k X.A)(hb:Ey X.K fd ps ds)(hd:Vals dvs ds)(hx:P0 CX X E)
 (I:Inv X Ac σ H s) (r:Vals vs us) (h:sp (vs++dvs) H Q E):wpAny (model X.prog X.w) X.A (call (.ref f) us) (EP X Ac σ Q) X.xe s:=by
 have r2:Vals (vs++dvs) (us++ds):=r.append hd;have hl:(us++ds).length=ps.length:=by rw[←r2.length];exact F.len _ _ _ _ h
 refine wpAny_call (codeAny_mono (F.run X.A X.stack s H ⟨us,[]⟩ (us++ds) (vs++dvs) Q E hr I.env0 (hb s us I.kIn hl) r2 h) fun r s' hq=>?_);cases r with
 | error e=>exact hx Ac σ H s e s' I hq
 | ok fl =>
   cases fl with
   | ret u=>exact I.after hq
   | next=>exact False.elim hq
   | brk=>exact False.elim hq
   | cont=>exact False.elim hq
theorem pC(F:Bj X.prog X.w X.K X.mg X.base CX k f fd ps sp)(hr:Di k X.A)(hg:Gl X x)(hm:X.mg x=some (.ref f))(hk:W.keepIn X.K (.ref f)=true)(hb:Ey X.K fd ps ds)(hd:Vals dvs ds)(hx:P0 CX X E)
 (ha:PA X (e::es) t) (hdb:(x==("__debug__":Str))=false:=by decide) (he:starEach (e::es) X.env=(false,eval e X.env)::starEach es X.env:=by rfl) (hpl:(backTo pos (starEach es X.env)).any (·.1)=false:=by rfl) :
 PE X (.Call (.Name x p) (e::es) [] pos) (tCall sp dvs E t):=by
 intro Ac s σ H Q I h;refine wpAny_Call_Name_kw (Gf I hg hm ?_ hdb);refine PySem.W.callWith_K (h₀:=X.base) I.ok.mod.kin hk (Bu (ha pos Ac s σ H _ I h) fun us s1 ⟨vs,H1,I1,r,q⟩=>⟨I1.kIn,?_⟩) he hpl;exact dS F hr hb hd hx I1 r q
theorem fV{pl:Sem Bool}(he:PE X o ta)(c:Cls X.K C)(hm:FP X.K C m f)(F:Bj X.prog X.w X.K X.mg X.base CX k f fd ps sp)(hr:Di k X.A)(hb:Ey X.K fd ps ds)(hd:Vals dvs ds)(hx:P0 CX X E)(ha:PA X (e::es) t)
 (hst:starEach (e::es) X.env=(false,eval e X.env)::starEach es X.env:=by rfl) (hpl:(backTo pos (starEach es X.env)).any (·.1)=false:=by rfl)
 (ht:eval (.Call (.Attribute o m apos) (e::es) [] pos) X.env=(do
   let ov ←eval o X.env
   standAt apos.atName
   let (f,first) ←holding [ov] (getMethod ov m pl)
   callWith pos f first (backTo pos (starEach (e::es) X.env)) (backToKw pos (keywordEach [] X.env))):=by rfl) :
 PE X (.Call (.Attribute o m apos) (e::es) [] pos) (bD C m sp dvs E ta t):=by
 intro Ac s σ H Q I h;refine PySem.W.methodCall_KW (pl:=pl) (Bu (he Ac s σ H _ I h) fun u s1 ⟨x,H1,I1,rx,a,dx,fs,ex,ea,l,q⟩=>?_) ht;subst ex;obtain rfl:u=Value.ref a:=rx;refine K6 I1 ea c hm l ?_;refine PySem.W.callWith_K (first:=[.ref a]) (h₀:=X.base) I.ok.mod.kin hm.kp (Bu (ha pos Ac s1 σ H1 _ I1 q) fun us s2 ⟨vs,H2,I2,r,q2⟩=>⟨I2.kIn,?_⟩) hst hpl;exact dS (us:=.ref a::us) (vs:=.ref a::vs) F hr hb hd hx I2 (.cons rfl r) q2
theorem lM{pl:Sem Bool}(he:PE X o ta)(c:Cls X.K C)(hm:FP X.K C m f)(F:Bj X.prog X.w X.K X.mg X.base CX k f fd ps sp)(hr:Di k X.A)(hb:Ey X.K fd ps ds)(hd:Vals dvs ds)(hx:P0 CX X E)
 (ht:eval (.Call (.Attribute o m apos) [] [] pos) X.env=(do
   let ov ←eval o X.env
   standAt apos.atName
   let (f,first) ←holding [ov] (getMethod ov m pl)
   callWith pos f first (backTo pos (starEach [] X.env)) (backToKw pos (keywordEach [] X.env))):=by rfl) :
 PE X (.Call (.Attribute o m apos) [] [] pos) (bD C m sp dvs E ta oO):=by
 intro Ac s σ H Q I h;refine PySem.W.methodCall_KW (pl:=pl) (Bu (he Ac s σ H _ I h) fun u s1 ⟨x,H1,I1,rx,a,dx,fs,ex,ea,l,q⟩=>?_) ht;subst ex;obtain rfl:u=Value.ref a:=rx;refine K6 I1 ea c hm l ?_;exact PySem.W.callWith_K0 (first:=[.ref a]) I1.kIn hm.kp (dS (us:=[.ref a]) (vs:=[.ref a]) F hr hb hd hx I1 (.cons rfl .nil) q)
structure Mk(K:W.Frag)(C f:Addr):Prop where
 makes:PySem.W.makesIn K C=true
 init:W.findIn K (.ref C) "__init__"=some (some (.ref f))
 fn:W.isFn K (.ref f)=true
 kp:W.keepIn K (.ref C)=true
theorem lA{Ac:LAObj}{σ:St}{H:Hp}{s:Shared}{Q:VK}{us:List Value}{vs:List V}(M:Mk X.K C f)(F:Bj X.prog X.w X.K X.mg X.base CX k f fd ps sp)(hr:Di (k+1) X.A)(hb:Ey X.K fd ps ds)(hd:Vals dvs ds)
 (hx:P0 CX X E) (I:Inv X Ac σ H s) (r:Vals vs us)
 (h:∀x dx,H x=none->H dx=none->dx≠x->sp (.ref x::(vs++dvs)) (upd (upd H dx (.own x)) x (.ins C dx [])) (fun v H2=>v=.non/\Q (.ref x) H2) E) :
 wpAny (model X.prog X.w) X.A (call (.ref C) us) (EP X Ac σ Q) X.xe s:=by
 have hq:=h (s.heap.objs.size+1) s.heap.objs.size (I.hok.fresh (Nat.le_succ _)) (I.hok.fresh (Nat.le_refl _)) (Nat.ne_of_lt (Nat.lt_succ_self _));have I2:=Inv.made (C:=C) I;have r2:Vals (V.ref (s.heap.objs.size+1)::(vs++dvs)) (Value.ref (s.heap.objs.size+1)::(us++ds)):=.cons rfl (r.append hd)
 have hl:(Value.ref (s.heap.objs.size+1)::us++ds).length=ps.length:=by
  have e:=r2.length;rw[F.len _ _ _ _ hq]at e;exact e.symm
 refine wpAny_call (MG (f:=f) I.kIn M.makes M.init (beq_iff_eq.mp M.fn) (codeAny_mono (F.run _ X.stack _ _ ⟨Value.ref (s.heap.objs.size+1)::us,[]⟩ (Value.ref (s.heap.objs.size+1)::(us++ds)) _ _ E (hr.make C us [])
  (I2.env0.make C us []) (hb _ (Value.ref (s.heap.objs.size+1)::us) I2.kIn hl) r2 hq) fun r s' hq'=>?_))
 cases r with
 | error e=>exact hx Ac σ _ _ e s' I2 hq'
 | ok fl =>
   cases fl with
   | ret u =>
     obtain⟨v,H',I3,rv,ev,q3⟩:=I2.after hq';subst ev;exact⟨rv,⟨V.ref (s.heap.objs.size+1),H',I3,rfl,q3⟩⟩
   | next=>exact False.elim hq'
   | brk=>exact False.elim hq'
   | cont=>exact False.elim hq'
theorem pB(M:Mk X.K C f)(F:Bj X.prog X.w X.K X.mg X.base CX k f fd ps sp)(hr:Di (k+1) X.A)(hg:Gl X x)(hm:X.mg x=some (.ref C))(hb:Ey X.K fd ps ds)(hd:Vals dvs ds)(hx:P0 CX X E)
 (ha:PA X (e::es) t) (hdb:(x==("__debug__":Str))=false:=by decide) (he:starEach (e::es) X.env=(false,eval e X.env)::starEach es X.env:=by rfl) (hpl:(backTo pos (starEach es X.env)).any (·.1)=false:=by rfl) :
 PE X (.Call (.Name x p) (e::es) [] pos) (QI C sp dvs E t):=by
 intro Ac s σ H Q I h;refine wpAny_Call_Name_kw (Gf I hg hm ?_ hdb);refine PySem.W.callWith_K (h₀:=X.base) I.ok.mod.kin M.kp (Bu (ha pos Ac s σ H _ I h) fun us s1 ⟨vs,H1,I1,r,q⟩=>⟨I1.kIn,?_⟩) he hpl;exact lA M F hr hb hd hx I1 r q
end
section
variable{X:Cx}{CX:KJ}{k:Nat}{f C:Addr}{fd:FuncData}{ps ks:List Str}{sp:Sp}{E:XK}{x m:Str}{p pos apos kpos:Pos}{e o:Expr}{es:List Expr}{kws:List Keyword}{te ta:TE}{t tk:TA}{nm:Option Str}
variable{g:List Value->List Value->List Value}{gV:List V->List V->List V}
end
structure FnScope(N P:List Str)(sc:Scope):Prop where
 kind:sc.kind=.function
 co:sc.isCoroutine=false
 gen:sc.isGenerator=false
 nd:N.Nodup
 pre:N.take P.length=P
 par:∀x∈P,sc.names.lookup x=some .local\/sc.names.lookup x=some .cell
 nofree:∀y∈sc.names,y.2≠.free
theorem j9{kindOf:Str->Option NameKind}{x:Str}:∀{binds:List (Str × Value)}{m:Str->Option Value},(∀v,(x,v) ∉ binds)->bindL kindOf binds m x=m x
 | [],_,_=>rfl
 | (n,v)::r,m,h=>by
   unfold bindL;rw[j9 fun w hw=>h w (List.mem_cons_of_mem _ hw)];split
   . have:x≠n:=by rintro rfl;exact h v List.mem_cons_self
     simp[this]
   . rfl
theorem A7{N P:List Str}{sc:Scope}(h1:sc.kind=.function:=by exact rfl)(h2:sc.isCoroutine=false:=by exact rfl)(h3:sc.isGenerator=false:=by exact rfl)(h4:N.Nodup:=by decide +kernel)(h5:N.take P.length=P:=by exact rfl)
 (h6:∀x∈P,sc.names.lookup x=some .local\/sc.names.lookup x=some .cell:=by decide +kernel) (h7:∀y∈sc.names,y.2≠.free:=by decide +kernel):FnScope N P sc:=⟨h1,h2,h3,h4,h5,h6,h7⟩
theorem l6{kindOf:Str->Option NameKind}{x:Str}:∀{binds:List (Str × Value)}{m:Str->Option Value},(∀v,(x,v) ∉ binds)->bindC kindOf binds m x=m x
 | [],_,_=>rfl
 | (n,v)::r,m,h=>by
   unfold bindC;rw[l6 fun w hw=>h w (List.mem_cons_of_mem _ hw)];split
   . rfl
   . have:x≠n:=by rintro rfl;exact h v List.mem_cons_self
     simp[this]
theorem k9{kindOf:Str->Option NameKind}{x:Str}{v:Value}:∀{P:List Str}{vs:List Value}{i:Nat}{m:Str->Option Value},P.Nodup->P[i]?=some x->vs[i]?=some v->kindOf x=some .local →
 bindL kindOf (P.zip vs) m x=some v
 | [],_,_,_,_,h,_,_=>by simp at h
 | _::_,[],_,_,_,_,h,_=>by simp at h
 | p::P,w::vs,0,m,nd,h1,h2,hk=>by
   simp at h1 h2;subst h1;subst h2;show bindL kindOf ((p,w)::P.zip vs) m p=_;unfold bindL;rw[j9 fun v hv=>(List.nodup_cons.mp nd).1 (List.of_mem_zip hv).1,if_pos hk];simp
 | p::P,w::vs,i+1,m,nd,h1,h2,hk=>by
   show bindL kindOf ((p,w)::P.zip vs) m x=_;unfold bindL;exact k9 (i:=i) (List.nodup_cons.mp nd).2 (by simpa using h1) (by simpa using h2) hk
theorem l7{kindOf:Str->Option NameKind}{x:Str}{v:Value}:∀{P:List Str}{vs:List Value}{i:Nat}{m:Str->Option Value},P.Nodup->P[i]?=some x->vs[i]?=some v->kindOf x≠some .local →
 bindC kindOf (P.zip vs) m x=some v
 | [],_,_,_,_,h,_,_=>by simp at h
 | _::_,[],_,_,_,_,h,_=>by simp at h
 | p::P,w::vs,0,m,nd,h1,h2,hk=>by
   simp at h1 h2;subst h1;subst h2;show bindC kindOf ((p,w)::P.zip vs) m p=_;unfold bindC;rw[l6 fun v hv=>(List.nodup_cons.mp nd).1 (List.of_mem_zip hv).1,if_neg hk];simp
 | p::P,w::vs,i+1,m,nd,h1,h2,hk=>by
   show bindC kindOf ((p,w)::P.zip vs) m x=_;unfold bindC;exact l7 (i:=i) (List.nodup_cons.mp nd).2 (by simpa using h1) (by simpa using h2) hk
def start(N:List Str)(vs:List V):St:=vs.map some++List.replicate (N.length-vs.length) none
def Xk(CX:KJ)(P:Program)(w:World)(K:W.Frag)(mg:Str->Option Value)(base:Heap)(N:List Str)(qual:Str)(scope:Scope)(f:Addr)(cd:Value)(A:Around)(outer:List Env)(s:Shared)(H:Hp)(E:XK):Cx where
 prog:=P
 w:=w
 K:=K
 mg:=mg
 base:=base
 A:=A.deeper (envOfC qual scope s.heap.objs.size f cd)
 N:=N
 s₀:=s
 H₀:=H
 env:=envOfC qual scope s.heap.objs.size f cd
 outer:=outer
 stack:=envOfC qual scope s.heap.objs.size f cd::outer
 ex:=[]
 calm:=true
 fn:=fun _=>true
 pn:=[]
 xe:=fun e s'=>wpAny (model P w) (A.deeper (envOfC qual scope s.heap.objs.size f cd)) (leaving (envOfC qual scope s.heap.objs.size f cd) e) (fun _ s''=>CX outer H s E e s'') (fun e' s''=>CX outer H s E e' s'') s'
theorem CM{sc:Scope}{n:Nat}{x:Str}(h:sc.names.lookup x=some .cell):∃c,(cellsFrom n sc.names []).lookup x=some c:=by
 have q:=PySem.W.cellsFrom_some sc.names n [] (.inl h);exact Option.isSome_iff_exists.mp q
theorem jE{CX:KJ}{P:Program}{w:World}{K:W.Frag}{mg:Str->Option Value}{base:Heap}{N ps:List Str}{qual:Str}{scope:Scope}{f:Addr}{cd:Value}{A:Around}{outer:List Env}{s s1:Shared}{H:Hp}{E:XK}{us:List Value}{vs:List V}
 (S:FnScope N ps scope) (hd:A.handled=none) (e0:fQ P w K mg base A outer s H) (hl:vs.length=ps.length) (r:Vals vs us)
 (x:InCallC s s.heap.objs.size (bindL (envOfC qual scope s.heap.objs.size f cd).kindOf (ps.zip us) fun _=>none) (cellsFrom (s.heap.objs.size+1) scope.names []) (bindC (envOfC qual scope s.heap.objs.size f cd).kindOf (ps.zip us) fun _=>none) s1) :
 Inv (Xk CX P w K mg base N qual scope f cd A outer s H E) [] (start N vs) H s1:=by
 have hpl:ps.length<=N.length:=by have:=congrArg List.length S.pre;rw[List.length_take]at this;omega
 obtain⟨h1,tk,rfl,hk⟩:=x.done;have vI:∀b:Addr,b ∉ (Xk CX P w K mg base N qual scope f cd A outer s H E).ex:=fun b z=>absurd (show b∈([]:List Addr) from z) (by simp)
 refine⟨⟨e0.mod,S.kind,rfl,rfl,Nat.le_refl _,fun y z c h1 h2=>?_,fun y hy=>?_,fun y c _ h=>?_,fun _=>hd,Around.frames_deeper e0.frames,.inr ⟨rfl,rfl⟩,fun b z=>absurd z (vI b),e0.bs,e0.bsz,fun b _ _=>vI b,fun b z=>absurd z (vI b),e0.funs,e0.frf⟩,
  rfl,e0.bare,Un.kept hk,⟨_,x.toInCall.ns,fun i y v h1 h2 h3=>?_⟩,fun y c h=>⟨_,x.cell y c h⟩,e0.hok.fresh (Nat.le_refl _),fun y c h=>?_,fun p hp=>absurd (show p∈([]:LAObj) from hp) (by simp),e0.hok.kept hk,?_⟩
 . exact name_of_addr x.apart (PySem.mem_of_lookup h1) (PySem.mem_of_lookup h2)
 . have hy:scope.names.lookup y=some .cell\/scope.names.lookup y=some .free:=hy;rcases hy with hy | hy
   . exact CM hy
   . exact absurd rfl (S.nofree _ (PySem.mem_of_lookup hy))
 . exact Nat.le_of_lt (x.above y c (PySem.mem_of_lookup h))
 . have hi:i<vs.length:=by
    unfold start at h2;by_cases hi:i<vs.length
    . exact hi
    . rw[List.getElem?_append_right (by simpa using hi)]at h2;rw[List.getElem?_replicate]at h2;split at h2<;>cases h2
   have ha:vs[i]?=some v:=by
    unfold start at h2;rw[List.getElem?_append_left (by simpa using hi),List.getElem?_map]at h2;cases e:vs[i]? with
    | none=>rw[e]at h2;cases h2
    | some a=>rw[e]at h2;cases h2;rfl
   obtain⟨u,hu,rv⟩:=r.get ha
   have hp:ps[i]?=some y:=by
    rw[←S.pre,List.getElem?_take_of_lt (by omega)];exact h1
   have ndP:ps.Nodup:=by rw[←S.pre];exact S.nd.sublist (List.take_sublist _ _)
   refine⟨u,rv,?_⟩;rcases S.par y (List.mem_of_getElem? hp) with k | k
   . exact .inl ⟨k,k9 ndP hp hu k⟩
   . obtain⟨c,e⟩:=CM (n:=s.heap.objs.size+1) k;refine .inr ⟨.inl k,c,e,?_⟩;have q:=x.cell y c e;rw[l7 ndP hp hu (by show scope.names.lookup y≠_;rw[k];decide)]at q;exact q
 . exact e0.hok.fresh (Nat.le_of_lt (x.above y c (PySem.mem_of_lookup h)))
 . unfold start;show _=N.length;rw[List.length_append,List.length_map,List.length_replicate];omega
theorem mZ{CX:KJ}{P:Program}{w:World}{K:W.Frag}{mg:Str->Option Value}{base:Heap}{k:Nat}{f:Addr}{name qual:Str}{params:Arguments}{body:List Stmt}{scope:Scope}{dV kV doc pm Cl ct oc:Value}{an od:OAddr}
 {osl:Bd}{N ps:List Str}{sp:Sp} (lk:K.lookup f=some ⟨oc,od,.func (W.fnOf name qual params body scope dV kV doc pm an Cl ct),osl⟩) (hcd:W.codeIn K Cl qual=true) (S:FnScope N ps scope)
 (len:∀vs H Q E,sp vs H Q E->vs.length=ps.length)
 (hbody:∀(A:Around) (outer:List Env) (s:Shared) (H:Hp) (vs:List V) (Q:VK) (E:XK),Di k (A.deeper (envOfC qual scope s.heap.objs.size f Cl))->sp vs H Q E →
   ∃t,BB (Xk CX P w K mg base N qual scope f Cl A outer s H E) body t/\t { nx:=fun _ H'=>Q .non H',rt:=Q } (start N vs) H) :
 Bj P w K mg base CX (k+1) f (W.fnOf name qual params body scope dV kV doc pm an Cl ct) ps sp:=by
 refine⟨len,fun A outer s H args us vs Q E hr e0 hb r dD=>?_⟩;have hl:=len _ _ _ _ dD;have KX:K.In s.heap:=e0.mod.kin.keeps fun b o e=>(e0.bs b o e).1;have lim:s.heap.NoLimit:=e0.mod.nolimit.keeps fun b o e=>(e0.bs b o e).1
 have hkind:∀y∈ps.zip us,scope.names.lookup y.1=some .local\/(scope.names.lookup y.1=some .cell/\((cellsFrom (s.heap.objs.size+1) scope.names []).lookup y.1).isSome=true):=fun⟨n,v⟩ hy=>by
  rcases S.par n (List.of_mem_zip hy).1 with q | q
  . exact .inl q
  . exact .inr ⟨q,PySem.W.cellsFrom_some _ _ _ (.inl q)⟩
 refine codeAny_call_function hr.depth (KX _ _ lk) rfl S.co S.gen rfl (PySem.W.codeRec_of KX hcd) (hb _ _ _ _ ?_);refine wpAny_newFunctionEnv_cells S.kind hkind fun env he s1 x=>?_;subst he;refine⟨lim.keeps x.toInCall.keep,codeAny_func ?_⟩;obtain⟨t,ht,hq⟩:=hbody A outer s H vs Q E (hr.deeper _) dD;have I:Inv (Xk CX P w K mg base N qual scope f Cl A outer s H E) [] (start N vs) H s1:=jE S hr.hd e0 hl r x;refine wpAny_mono (ht [] s1 (start N vs) H _ I hq) (fun fl s' hs=>?_) fun e s' hs=>hs
 have fin:∀{σ':St}{H':Hp}{v:V}{u:Value},Inv (Xk CX P w K mg base N qual scope f Cl A outer s H E) [] σ' H' s'->RelV v u->Q v H'->CE outer P w H s Q u s' :=
  fun {σ' H' v u} J rv q=>⟨v,H',J.os,J.bare,J.base,J.hok,rv,q⟩
 cases fl with
 | ret u =>
   obtain⟨v,σ',H',J,rv,q⟩:=hs;exact fin J rv q
 | next =>
   obtain⟨σ',H',J,q⟩:=hs;exact fin (v:=V.non) (u:=Value.none) J rfl q
 | brk =>
   obtain⟨_,_,_,q⟩:=hs;exact False.elim q
 | cont =>
   obtain⟨_,_,_,q⟩:=hs;exact False.elim q
section
variable{X:Cx}{x:Str}{p pos:Pos}{e:Expr}{es:List Expr}{t:TA}{id T:String}{r:List V->Hp->VK->Prop}
def tCB(r:List V->Hp->VK->Prop)(t:TA):TE:=fun σ H Q=>t σ H fun vs H1=>r vs H1 Q
theorem Aq(hc:Ei X (.builtin id) r)(hm:X.mg x=none)(hv:bootBuiltins x=some (.builtin id))(ha:PA X (e::es) t)(hg:Gl X x:=by rfl)(hn:x≠"__name__":=by decide)(hdb:(x==("__debug__":Str))=false:=by decide)
 (he:starEach (e::es) X.env=(false,eval e X.env)::starEach es X.env:=by rfl) (hpl:(backTo pos (starEach es X.env)).any (·.1)=false:=by rfl):PE X (.Call (.Name x p) (e::es) [] pos) (tCB r t):=by
 intro Ac s σ H Q I h;refine wpAny_Call_Name_kw (Ja I hg hm hv ?_ hn hdb);exact PyProof.Rows.callWith_builtin1 (Bu (ha pos Ac s σ H _ I h) fun us s1 ⟨vs,H1,I1,r1,q1⟩=>hc Ac s1 σ H1 vs us Q I1 r1 q1) he hpl
theorem C7(hc:Ei X (.type T) r)(hg:Gl X x)(hm:X.mg x=none)(hv:bootBuiltins x=some (.type T))(ha:PA X (e::es) t)(hn:x≠"__name__":=by decide)(hdb:(x==("__debug__":Str))=false:=by decide)
 (he:starEach (e::es) X.env=(false,eval e X.env)::starEach es X.env:=by rfl) (hpl:(backTo pos (starEach es X.env)).any (·.1)=false:=by rfl):PE X (.Call (.Name x p) (e::es) [] pos) (tCB r t):=by
 intro Ac s σ H Q I h;refine wpAny_Call_Name_kw (Ja I hg hm hv ?_ hn hdb);exact PyProof.Rows.callWith_type1 (Bu (ha pos Ac s σ H _ I h) fun us s1 ⟨vs,H1,I1,r1,q1⟩=>hc Ac s1 σ H1 vs us Q I1 r1 q1) he hpl
end
end L2
namespace HT
open PySem PyProof.Rows
section
open PySem.SeqAt
open PySem.AutoSeq1 (wpAny_loadPart')
open PySem.MeetsSeq PySem.MeetsSeq2 PySem.MeetsSeq3
end
section
variable{prog:Program}{w:World}{A:Around}{E:Value->Shared->Prop}{s:Shared}
theorem cat_tup{t b:Addr}{vs ws:List Value}{Q:Value->Shared->Prop}(ht:IsTup s.heap t vs.toArray)(hb:IsTup s.heap b ws.toArray)(hv:vs≠[])
 (h1:ws=[]->Q (.ref t) s) (h2:ws≠[]->Q (.ref s.heap.objs.size) { s with heap:=s.heap.push { cls:=.type "tuple",data:=.seq (vs++ws).toArray } })
 (hsz:vs.length+ws.length<=sizeLine):wpAny (model prog w) A (binaryOp .Add (.ref t) (.ref b)) Q E s:=by
 obtain⟨⟨cls,dd,data,sl⟩,ho,hc,n,hd⟩:=id ht;obtain⟨⟨WS,dd2,data2,sl2⟩,ho2,hc2,n2,hd2⟩:=id hb;simp only at hc hd hc2 hd2;subst hc hd hc2 hd2;have e:vs.toArray++ws.toArray=(vs++ws).toArray:=by simp
 by_cases hw:ws=[]
 . exact concat_meets ⟨_,ho,rfl⟩ ⟨_,ho2,rfl⟩ noFill_tuple_add seq_tuple_add PySem.F.slot_tuple_add PySem.F.entry_tuple_add (PySem.F.args_tuple_add_2 _ _)
    (tuple_addW1 t b vs.toArray ws.toArray n n2 dd dd2 sl sl2 (by simpa using hv) (by simp[hw])) ⟨ho,ho2,h1 hw⟩
 . refine concat_meets ⟨_,ho,rfl⟩ ⟨_,ho2,rfl⟩ noFill_tuple_add seq_tuple_add PySem.F.slot_tuple_add PySem.F.entry_tuple_add (PySem.F.args_tuple_add_2 _ _)
    (tuple_addW2 t b vs.toArray ws.toArray n n2 dd dd2 sl sl2 (by simpa using hv) (by simpa using hw) (by rw[List.size_toArray,List.size_toArray];exact hsz)) ⟨ho,ho2,?_⟩
   rw[e];exact h2 hw
def sIx(n d:Nat):Option Int->Nat
 | none=>d
 | some v=>if v<0 then(v+(n:Int)).toNat else min v.toNat n
theorem sIx_none(n d:Nat):sIx n d none=d:=rfl
theorem sIx_nat(n d k:Nat):sIx n d (some (k:Int))=min k n:=by
 show(if (k:Int)<0 then((k:Int)+(n:Int)).toNat else min (k:Int).toNat n)=min k n;rw[if_neg (by omega),Int.toNat_natCast]
theorem rP(n d:Nat)(hd:d<=n)(o:Option Int):sIx n d o<=n:=by
 cases o with
 | none=>exact hd
 | some v =>
   show(if v<0 then(v+(n:Int)).toNat else min v.toNat n)<=n;by_cases hv:v<0
   . rw[if_pos hv];omega
   . rw[if_neg hv];exact Nat.min_le_right _ _
theorem GN(v:Int)(n d:Nat):(if v<0 then max (v+(n:Int)) 0 else min v (n:Int))=((sIx n d (some v):Nat):Int):=by
 show(if v<0 then max (v+(n:Int)) 0 else min v (n:Int))=(((if v<0 then(v+(n:Int)).toNat else min v.toNat n):Nat):Int)
 by_cases hv:v<0
 . simp only[if_pos hv];omega
 . simp only[if_neg hv];omega
theorem fO(lo hi:Option Int)(n:Nat):Builtin.Slice.sliceAdjust lo hi 1 (n:Int)=(((sIx n 0 lo:Nat):Int),((sIx n n hi:Nat):Int)):=by
 have h1:¬((1:Int)<0):=by omega
 unfold Builtin.Slice.sliceAdjust;simp only[h1,if_false];refine Prod.ext ?_ ?_
 . cases lo with
   | none=>rfl
   | some v=>exact GN v n 0
 . cases hi with
   | none=>rfl
   | some v=>exact GN v n n
theorem DW(i j:Nat):Builtin.Slice.slicePlaces (i:Int) (j:Int) 1=j-i:=by
 unfold Builtin.Slice.slicePlaces;have h1:(1:Int) > 0:=by omega
 simp only[h1,if_true,Int.ediv_one];split<;>omega
theorem Vl{v:Value}{o:Option Int}{Q:Option Int->Shared->Prop}(p:IsPart v o)(h:Q o s):wpAny (model prog w) A (Builtin.Slice.slicePartIndex v) Q E s:=by
 cases p with
 | none=>exact slicePart_none h
 | int i t=>exact slicePart_int h
theorem Ru{sl:Addr}{vl vu:Value}{lo hi:Option Int}{n:Nat}{Q:Int × Int × Nat->Shared->Prop}(hs:s.heap.IsSliceOf sl vl vu .none)(pl:IsPart vl lo)(pu:IsPart vu hi)
 (h:Q (((sIx n 0 lo:Nat):Int),1,sIx n n hi-sIx n 0 lo) s):wpAny (model prog w) A (Builtin.Slice.sliceApplied (.ref sl) (pure (n:Int))) Q E s:=by
 obtain⟨os,hos,hcs,hds⟩:=id hs;unfold Builtin.Slice.sliceApplied Builtin.Slice.sliceFields;refine wpAny_bind (wpAny_bind (wpAny_field hos hds (x:=vl) rfl (wpAny_bind (wpAny_field hos hds (x:=vu) rfl (wpAny_bind (wpAny_field hos hds (x:=.none) rfl (wpAny_pure ?_)))))));refine wpAny_bind (slicePart_none ?_);show wpAny _ _ (if ((1:Int)==0)=true then _ else _) _ _ s;rw[if_neg (by decide)];refine wpAny_bind (Vl pl (wpAny_bind (Vl pu (wpAny_bind (wpAny_pure ?_)))));show wpAny _ _ (match Builtin.Slice.sliceAdjust lo hi 1 (n:Int) with | (lo,hi)=>pure (lo,(1:Int),Builtin.Slice.slicePlaces lo hi 1)) _ _ s;rw[fO lo hi n];show wpAny _ _ (pure (((sIx n 0 lo:Nat):Int),(1:Int),Builtin.Slice.slicePlaces ((sIx n 0 lo:Nat):Int) ((sIx n n hi:Nat):Int) 1)) _ _ s;rw[DW];exact wpAny_pure h
theorem lJ(xs:Array Value)(i k:Nat):((List.range k).filterMap fun(m:Nat)=>xs[((i:Int)+(m:Int)*1).toNat]?).toArray=((xs.toList.drop i).take k).toArray:=by
 have e:(fun(m:Nat)=>xs[((i:Int)+(m:Int)*1).toNat]?)=fun m=>xs[i+m]?:=by
  funext m
  have:((i:Int)+(m:Int)*1).toNat=i+m:=by omega
  rw[this]
 rw[e];have:=pick_run xs i k;rw[List.filterMap_map]at this;have e2:((fun x=>xs[x]?) ∘ fun x=>i+x)=fun m=>xs[i+m]?:=rfl;rw[e2]at this;rw[this]
theorem getItem_tuple_cut{t sl:Addr}{items:Array Value}{vl vu:Value}{lo hi:Option Int}{Q:Value->Shared->Prop}(ht:IsTup s.heap t items)(hs:s.heap.IsSliceOf sl vl vu .none)(pl:IsPart vl lo)(pu:IsPart vu hi)
 (hw:¬(sIx items.size 0 lo=0/\sIx items.size items.size hi=items.size))
 (h:Q (.ref s.heap.objs.size) { s with heap:=s.heap.push { cls:=.type "tuple",data:=.seq ((items.toList.drop (sIx items.size 0 lo)).take (sIx items.size items.size hi-sIx items.size 0 lo)).toArray } })
 (hsz:items.size<=sizeLine):wpAny (model prog w) A (getItem (.ref t) (.ref sl)) Q E s:=by
 have GF:sizeOk (.seq ((items.toList.drop (sIx items.size 0 lo)).take (sIx items.size items.size hi-sIx items.size 0 lo)).toArray):=by
  show((items.toList.drop (sIx items.size 0 lo)).take (sIx items.size items.size hi-sIx items.size 0 lo)).toArray.size<=sizeLine;rw[List.size_toArray,List.length_take,List.length_drop,Array.length_toList];omega
 have hj:sIx items.size items.size hi<=items.size:=rP _ _ (Nat.le_refl _) hi;obtain⟨os,hos,hcs,hds⟩:=id hs;have hTs:s.TypeIs (.ref sl) "slice":=⟨os,hos,hcs⟩
 unfold getItem
 try with_reducible refine wpAny_holding ?_
 first | refine wpAny_bind (wpAny_pure ?_) | skip
 refine wpAny_bind (wpAny_sequenceKey ht.typeIs (by decide) ?_)
 refine wpAny_bind (wpAny_callSpecial?_slot (name:=Str.ofString "__getitem__") ht.typeIs PyProof.Rows.slot_tuple_getitem
  (wpAny_call_entry PyProof.Rows.slot_tuple_getitem ht.typeIs entry_tuple_getitem ?_ (args_tuple_getitem _ _)))
 show wpAny _ _ (Builtin.Tuple.tupleItemsOf (.ref t)>>=_) _ _ s;refine wpAny_bind (tupleItemsOf_ ht ?_);refine wpAny_bind (wpAny_typeOf hTs ?_);rw[if_pos (by decide)];refine wpAny_bind (Ru hs pl pu ?_)
 have hno:¬((((sIx items.size 0 lo:Nat):Int)==0&&(1:Int)==1&&(sIx items.size items.size hi-sIx items.size 0 lo)==items.size)=true):=by
  intro q;rw[Bool.and_eq_true,Bool.and_eq_true]at q;have q1:((sIx items.size 0 lo:Nat):Int)=0:=eq_of_beq q.1.1;have q2:sIx items.size items.size hi-sIx items.size 0 lo=items.size:=eq_of_beq q.2;exact hw ⟨by omega,by omega⟩
 show wpAny _ _ (if (((sIx items.size 0 lo:Nat):Int)==0&&(1:Int)==1&&(sIx items.size items.size hi-sIx items.size 0 lo)==items.size)=true then _ else _) _ _ s;rw[if_neg hno,lJ]
 first
  | exact wpAny_bind (m:=Builtin.Tuple.tupleExact _) (wpAny_newObj_type (wpAny_pure ⟨_,rfl,wpAny_pure h⟩) GF)
  | exact wpAny_bind (m:=Builtin.Tuple.tupleExact _) (wpAny_newObj_type (wpAny_bind (wpAny_pure (wpAny_pure ⟨_,rfl,wpAny_pure h⟩))) GF)
  | exact wpAny_bind (wpAny_bind (m:=Builtin.Tuple.tupleExact _) (wpAny_newObj_type (wpAny_pure (wpAny_pure ⟨_,rfl,wpAny_pure h⟩)) GF))
  | exact wpAny_bind (wpAny_bind (m:=Builtin.Tuple.tupleExact _) (wpAny_newObj_type (wpAny_pure ⟨_,rfl,wpAny_pure h⟩) GF))
end
end HT
namespace L2
open PySem PySem.Spec PyProof.Rows
abbrev TO:=St->Hp->(Option Int->Hp->Prop)->Prop
def PO(X:Cx)(e:Option Expr)(t:TO):Prop :=
 ∀(Ac:LAObj) (s:Shared) (σ:St) (H:Hp) (Q:Option Int->Hp->Prop),Inv X Ac σ H s->t σ H Q →
   wpAny (model X.prog X.w) X.A (evalPart e X.env) (fun u s'=>∃o H',Inv X Ac σ H' s'/\IsPart u o/\Q o H') X.xe s
def ON:TO:=fun _ H Q=>Q none H
def uQ(t:TE):TO:=fun σ H Q=>t σ H fun x H1=>∃i,x=.int i/\Q (some i) H1
section
variable{X:Cx}{e:Expr}{te:TE}{lo hi:Option Expr}{tl th:TO}{pos p2:Pos}
theorem FU:PO X none ON:=by
 intro Ac s σ H Q I h;rw[evalPart_none];exact wpAny_pure ⟨none,H,I,.none,h⟩
theorem U3(h:PE X e te):PO X (some e) (uQ te):=by
 intro Ac s σ H Q I hw;rw[evalPart_some];refine Bu (h Ac s σ H _ I hw) fun u s1 ⟨x,H1,I1,r1,q1⟩=>?_;obtain⟨i,rfl,q⟩:=q1;obtain⟨t,rfl⟩:=r1;exact⟨some i,H1,I1,.int i t,q⟩
def uM(X:Cx)(r:V->Option Int->Option Int->Hp->VK->Prop):Prop :=
 ∀(Ac:LAObj) (s:Shared) (σ:St) (H:Hp) (x:V) (v vl vu:Value) (lo hi:Option Int) (sl:Addr) (Q:VK),Inv X Ac σ H s->RelV x v->s.heap.IsSliceOf sl vl vu .none->IsPart vl lo->IsPart vu hi->r x lo hi H Q →
   ∃T id,typeLookup (.type T) "__getitem__"=pure (some (.builtin id))/\s.TypeIs v T/\wpAny (model X.prog X.w) X.A (getItem v (.ref sl)) (EP X Ac σ Q) X.xe s
def tSl(r:V->Option Int->Option Int->Hp->VK->Prop)(te:TE)(tl th:TO):TE:=fun σ H Q=>te σ H fun x H1=>tl σ H1 fun l H2=>th σ H2 fun u H3=>r x l u H3 Q
theorem V1{r:V->Option Int->Option Int->Hp->VK->Prop}(hr:uM X r)(he:PE X e te)(hl:PO X lo tl)(hu:PO X hi th):PE X (.Subscript e (.Slice lo hi none p2) pos) (tSl r te tl th):=by
 intro Ac s σ H Q I h;refine Subscript_ (Bu (he Ac s σ H _ I h) fun v s1 ⟨x,H1,I1,r1,q1⟩=>?_);refine wpAny_Slice (Bu (hl Ac s1 σ H1 _ I1 q1) fun vl s2 ⟨l,H2,I2,pl,q2⟩=>Bu (hu Ac s2 σ H2 _ I2 q2) fun vu s3 ⟨u,H3,I3,pu,q3⟩=>?_);rw[evalPart_none];refine wpAny_pure ?_;have I4:Inv X Ac σ H3 { s3 with heap:=s3.heap.push { cls:=.type "slice",data:=.fields #[vl,vu,.none] } }:=I3.kept (t':=s3.toks) fun b ob q=>Heap.get?_push_of_some _ q;obtain⟨T,id,hT,ht,hg⟩:=hr Ac { s3 with heap:=s3.heap.push { cls:=.type "slice",data:=.fields #[vl,vu,.none] } } σ H3 x v vl vu l u s3.heap.objs.size Q I4 r1 (Heap.IsSliceOf.new ..) pl pu q3;show wpAny (model X.prog X.w) X.A (subscriptTail e (.Slice lo hi none p2) v (.ref s3.heap.objs.size)) (EP X Ac σ Q) X.xe { s3 with heap:=s3.heap.push { cls:=.type "slice",data:=.fields #[vl,vu,.none] } };exact tail_any (ops:=[.ref s3.heap.objs.size,v]) ht hT hg (by with_unfolding_all rfl)
def Ta(xs:List V)(lo hi:Option Int):List V:=(xs.drop (HT.sIx xs.length 0 lo)).take (HT.sIx xs.length xs.length hi-HT.sIx xs.length 0 lo)
theorem Ts(xs:List V)(lo hi:Option Int):(Ta xs lo hi).length<=xs.length:=by
 unfold Ta;rw[List.length_take,List.length_drop];omega
def yP(K:W.Frag):V->Option Int->Option Int->Hp->VK->Prop:=fun x lo hi H Q=>∃a xs,x=.ref a/\Dw K H a xs ∧
 ¬(HT.sIx xs.length 0 lo=0/\HT.sIx xs.length xs.length hi=xs.length)/\∀p,H p=none->Q (.ref p) (upd H p (.tup (Ta xs lo hi)))
theorem rN:uM X (yP X.K):=by
 intro Ac s σ H x v vl vu lo hi sl Q I rx hs pl pu h;obtain⟨a,xs,rfl,hx,hw,q⟩:=h;cases rx;obtain⟨its,r,ht,hz⟩:=I.tuple hx;have hlen:its.toArray.size=xs.length:=by rw[List.size_toArray];exact r.length.symm
 refine⟨"tuple",_,PyProof.Rows.slot_tuple_getitem.lookup,ht.typeIs,?_⟩;refine HT.getItem_tuple_cut ht hs pl pu (by rw[hlen];exact hw) ?_ (by rw[hlen];exact hz);rw[hlen];refine⟨.ref s.heap.objs.size,_,I.laid (t':=s.toks) (o:=.tup (Ta xs lo hi)) (fun b ob q=>Heap.get?_push_of_some _ q) (Nat.le_refl _) ?_,rfl,q _ (I.hok.fresh (Nat.le_refl _))⟩;exact⟨Nat.le_trans (Ts xs lo hi) hz,_,(r.drop (HT.sIx xs.length 0 lo)).take (HT.sIx xs.length xs.length hi-HT.sIx xs.length 0 lo),Jd.new _ _⟩
def VC(K:W.Frag):R2:=fun x y H Q=>∃a b xs ys,x=.ref a/\y=.ref b/\Dw K H a xs/\Dw K H b ys/\xs≠[]/\xs.length+ys.length<=sizeLine ∧
 (ys=[]->Q (.ref a) H)/\(ys≠[]->∀p,H p=none->Q (.ref p) (upd H p (.tup (xs++ys))))
theorem Vals.nil_iff{xs:List V}{us:List Value}(r:Vals xs us):us=[]↔xs=[]:=by
 cases r with
 | nil=>simp
 | cons _ _=>simp
theorem pG:OpR X (binaryOp .Add) (VC X.K):=by
 intro Ac s σ H x y v u Q I rx ry h;obtain⟨a,b,xs,ys,rfl,rfl,ha,hb,hx,hz,q1,q2⟩:=h;cases rx;cases ry;obtain⟨its,r1,p1,_⟩:=I.tuple ha;obtain⟨its2,r2,p2,_⟩:=I.tuple hb;refine HT.cat_tup p1 p2 (fun z=>hx (r1.nil_iff.mp z)) (fun z=>⟨.ref a,H,I,rfl,q1 (r2.nil_iff.mp z)⟩) (fun z=>?_) (by rw[←r1.length,←r2.length];exact hz);refine⟨.ref s.heap.objs.size,_,I.laid (t':=s.toks) (o:=.tup (xs++ys)) (fun b ob q=>Heap.get?_push_of_some _ q) (Nat.le_refl _) ?_,rfl,q2 (fun w=>z (r2.nil_iff.mpr w)) _ (I.hok.fresh (Nat.le_refl _))⟩;exact⟨by rw[List.length_append];exact hz,_,r1.append r2,Jd.new _ _⟩
end
def pS(n:Nat)(i:Int):Option Nat:=if 0<=i then(if i<n then some i.toNat else none) else if -(n:Int)<=i then some (i+n).toNat else none
def Uw{α:Type}(xs:List α)(i:Int):Option α:=(pS xs.length i).bind fun j=>xs[j]?
theorem gF{n:Nat}{i:Int}{j:Nat}(h:pS n i=some j):seqIndex? i n=some j/\j<n/\-(n:Int)<=i/\i<n:=by
 unfold pS at h;by_cases h0:0<=i
 . rw[if_pos h0]at h;by_cases h1:i<n
   . rw[if_pos h1]at h;have e:i.toNat=j:=Option.some.inj h;exact⟨by rw[seqIndex_of h0 h1,e],by omega,by omega,h1⟩
   . rw[if_neg h1]at h;cases h
 . rw[if_neg h0]at h;by_cases h1:-(n:Int)<=i
   . rw[if_pos h1]at h;have e:(i+n).toNat=j:=Option.some.inj h;exact⟨by rw[seqIndex_neg (by omega) h1,e],by omega,h1,by omega⟩
   . rw[if_neg h1]at h;cases h
theorem gR{α:Type}{xs:List α}{i:Int}{v:α}(h:Uw xs i=some v):∃j,seqIndex? i xs.length=some j/\xs[j]?=some v/\j<xs.length/\-(xs.length:Int)<=i/\i<xs.length:=by
 unfold Uw at h;cases e:pS xs.length i with
 | none=>rw[e]at h;cases h
 | some j =>
   rw[e]at h;obtain⟨h1,h2,h3,h4⟩:=gF e;exact⟨j,h1,h,h2,h3,h4⟩
theorem Ft{α:Type}{xs:List α}{j:Nat}{v:α}(h:xs[j]?=some v):Uw xs (j:Int)=some v:=by
 have hj:j<xs.length:=(List.getElem?_eq_some_iff.mp h).1
 have e:pS xs.length (j:Int)=some j:=by
  unfold pS;rw[if_pos (by omega),if_pos (by omega)];simp
 unfold Uw;rw[e];exact h
def gT(b:Expr):Prop:=∀o i,subscripted b false o i=operate [o,i] (getItem o i)
def wX(X:Cx)(r:R2):Prop :=
 ∀(value slice:Expr) (Ac:LAObj) (s:Shared) (σ:St) (H:Hp) (x y:V) (v u:Value) (Q:VK),Inv X Ac σ H s->RelV x v->RelV y u->r x y H Q →
   subscripted slice false v u=operate [v,u] (getItem v u)->wpAny (model X.prog X.w) X.A (subscriptTail value slice v u) (EP X Ac σ Q) X.xe s
def yC(X:Cx)(id:String)(r:V->List V->Hp->VK->Prop):Prop :=
 ∀(Ac:LAObj) (s:Shared) (σ:St) (H:Hp) (x:V) (xs:List V) (v:Value) (us:List Value) (Q:VK),Inv X Ac σ H s->RelV x v->Vals xs us->r x xs H Q →
   wpAny (model X.prog X.w) X.A (call (.builtin id) (v::us)) (EP X Ac σ Q) X.xe s
section
variable{X:Cx}{a b:Expr}{ta tb:TE}{pos:Pos}
theorem A5{r:R2}(hr:wX X r)(ha:PE X a ta)(hb:PE X b tb)(hs:gT b):PE X (.Subscript a b pos) (UQ r ta tb):=by
 intro Ac s σ H Q I h;exact Subscript_ (tW ha hb I h fun v u s2 x y H2 I2 rx ry q=>hr a b Ac s2 σ H2 x y v u Q I2 rx ry q (hs _ _))
def VB(K:W.Frag):R2:=fun x y H Q=>∃p xs i v,x=.ref p/\y=.int i/\SqL K H p xs/\Uw xs i=some v/\Q v H
def rQ(K:W.Frag):R2:=fun x y H Q=>∃p xs i v,x=.ref p/\y=.int i/\Dw K H p xs/\Uw xs i=some v/\Q v H
theorem PR:wX X (VB X.K):=by
 intro value slice Ac s σ H x y v u Q I rx ry h hs;obtain⟨p,xs,i,z,rfl,rfl,hq,he,q⟩:=h;cases rx;obtain⟨t,rfl⟩:=ry;obtain⟨its,r,pl,hz⟩:=I.list hq;obtain⟨j,h1,h2,h3,h4,h5⟩:=gR he;obtain⟨w,ew,rw'⟩:=r.get h2;have hl:=r.length;have hn:=aB;have fin:EP X Ac σ Q w s:=⟨z,H,I,rw',q⟩
 by_cases h0:0<=i
 . have hj:i.toNat=j:=by
    rw[seqIndex_of h0 h5]at h1;exact Option.some.inj h1
   exact item_listR pl.isList h0 (by omega) (by rw[hj];simpa using ew) fin hs
 . have hj:(i+(its.toArray.size:Int)).toNat=j:=by
    rw[seqIndex_neg (by omega) h4]at h1;rw[List.size_toArray,←hl];exact Option.some.inj h1
   exact subscriptTail_builtinR (x:=w) pl.isList.typeIs slot_list_getitem.lookup
    (wpAny_getItem_list_neg (Q:=fun r s'=>r=w/\EP X Ac σ Q r s') pl.isList (by omega) (by rw[List.size_toArray]<;>omega) (by omega) (by rw[hj];simpa using ew) ⟨rfl,fin⟩) hs
theorem sS:wX X (rQ X.K):=by
 intro value slice Ac s σ H x y v u Q I rx ry h hs;obtain⟨p,xs,i,z,rfl,rfl,hq,he,q⟩:=h;cases rx;obtain⟨t,rfl⟩:=ry;obtain⟨its,r,pl,hz⟩:=I.tuple hq;obtain⟨j,h1,h2,h3,h4,h5⟩:=gR he;obtain⟨w,ew,rw'⟩:=r.get h2;have hl:=r.length;have hn:=aB;have fin:EP X Ac σ Q w s:=⟨z,H,I,rw',q⟩
 exact subscriptTail_builtinR (x:=w) pl.typeIs slot_tuple_getitem.lookup
  (getItem_tuple (j:=j) (Q:=fun r s'=>r=w/\EP X Ac σ Q r s') pl (by omega) (by omega) (by rw[List.size_toArray,←hl];exact h1) (by simpa using ew) ⟨rfl,fin⟩) hs
theorem eN(its:List Value)(n j:Nat)(u:Value):Obj.mapSeq (·.setIfInBounds j u) { cls:=.type "list",data:=.seq its.toArray n }={ cls:=.type "list",data:=.seq (its.set j u).toArray n }:=by
 simp[Obj.mapSeq]
theorem Inv.lst{Ac:LAObj}{σ:St}{H:Hp}{s:Shared}{p:Addr}{xs:List V}(I:Inv X Ac σ H s)(h:H p=some (.lst xs)) :
 ∃(its:List Value) (n:Nat),Vals xs its/\s.heap.get? p=some { cls:=.type "list",data:=.seq its.toArray n }/\xs.length<=sizeLine:=by
 obtain⟨z,its,n,r,e⟩:=I.hok p _ h;exact⟨its,n,r,e,z⟩
theorem Inv.lstUpd{Ac:LAObj}{σ:St}{H:Hp}{s:Shared}{p:Addr}{xs ys:List V}{its its':List Value}{n n':Nat}{f:Obj->Obj}(I:Inv X Ac σ H s)(h:H p=some (.lst xs))
 (ho:s.heap.get? p=some { cls:=.type "list",data:=.seq its.toArray n }) (hf:f { cls:=.type "list",data:=.seq its.toArray n }={ cls:=.type "list",data:=.seq its'.toArray n' }) (r:Vals ys its') (hz:ys.length<=sizeLine) (t:Nat) :
 Inv X Ac σ (upd H p (.lst ys)) { s with heap:=s.heap.update p f,toks:=t }:=by
 have e:(s.heap.update p f).get? p=some { cls:=.type "list",data:=.seq its'.toArray n' }:=by
  rw[Heap.get?_update_self f ho (by rw[hf]<;>rfl),hf]
 refine I.write (x:=p) (e:=p) (by rw[h];trivial) (.inl rfl) (fun b u hb q=>(Heap.get?_update_other _ _ (Ne.symm hb)).trans q) ⟨_,e⟩ ?_;exact⟨hz,its',n',r,e⟩
def VA:V->V->V->Hp->(Hp->Prop)->Prop:=fun o i v H Q=>∃p xs k j,o=.ref p/\i=.int k/\H p=some (.lst xs)/\pS xs.length k=some j/\Q (upd H p (.lst (xs.set j v)))
theorem BG:WV X VA:=by
 intro Ac s σ H o i v ov iv u Q I ro ri rv h;obtain⟨p,xs,k,j,rfl,rfl,hp,hj,q⟩:=h;cases ro;obtain⟨t,rfl⟩:=ri;obtain⟨its,n,r,ho,hz⟩:=I.lst hp;obtain⟨h1,h2,h3,h4⟩:=gF hj;have hl:=r.length;have hn:=aB
 have I':Inv X Ac σ (upd H p (.lst (xs.set j v))) { s with heap:=s.heap.update p (Obj.mapSeq (·.setIfInBounds j u)) } :=
  I.lstUpd hp ho (eN its n j u) (r.set rv j) (by rw[List.length_set];exact hz) s.toks
 by_cases h0:0<=k
 . have hk:k.toNat=j:=by
    rw[seqIndex_of h0 h4]at h1;exact Option.some.inj h1
   exact PySem.W.ki_setAt ho h0 (by omega) (by rw[List.size_toArray,←hl];exact h4) (by rw[hk];exact⟨_,I',q⟩)
 . have hk:(k+(its.toArray.size:Int)).toNat=j:=by
    rw[seqIndex_neg (by omega) h3]at h1;rw[List.size_toArray,←hl];exact Option.some.inj h1
   exact PySem.W.ki_setBack ho (by omega) (by rw[List.size_toArray,←hl];exact h3) (by omega) (by rw[hk];exact⟨_,I',q⟩)
theorem q9(lo hi:Option Int)(n:Nat):(sliceBounds lo hi none n).1=((HT.sIx n 0 lo:Nat):Int)/\(sliceBounds lo hi none n).2.1=((HT.sIx n n hi:Nat):Int)/\(sliceBounds lo hi none n).2.2=1:=by
 refine⟨?_,?_,rfl⟩
 . cases lo with
   | none=>simp[sliceBounds,HT.sIx]
   | some i =>
     simp only[sliceBounds,HT.sIx,Option.getD_none,show(1:Int) > 0 by decide,if_true];by_cases h:i<0
     . simp only[h,if_true]<;>omega
     . simp only[h,if_false]<;>omega
 . cases hi with
   | none=>simp[sliceBounds,HT.sIx]
   | some i =>
     simp only[sliceBounds,HT.sIx,Option.getD_none,show(1:Int) > 0 by decide,if_true];by_cases h:i<0
     . simp only[h,if_true]<;>omega
     . simp only[h,if_false]<;>omega
theorem X6(its:List Value)(lo hi:Option Int):slicePick its.toArray lo hi none=((its.drop (HT.sIx its.length 0 lo)).take (HT.sIx its.length its.length hi-HT.sIx its.length 0 lo)).toArray:=by
 obtain⟨h1,h2,h3⟩:=q9 lo hi its.toArray.size;unfold slicePick;rw[h1,h2,h3];simp only[sliceRange_one,pick_run,List.size_toArray]<;>rfl
def vA(K:W.Frag):V->Option Int->Option Int->Hp->VK->Prop:=fun x lo hi H Q=>∃a xs,x=.ref a/\SqL K H a xs/\∀p,H p=none->Q (.ref p) (upd H p (.lst (Ta xs lo hi)))
theorem oR:uM X (vA X.K):=by
 intro Ac s σ H x v vl vu lo hi sl Q I rx hs pl pu h;obtain⟨a,xs,rfl,hx,q⟩:=h;cases rx;obtain⟨its,r,ht,hz⟩:=I.list hx;have hlen:=r.length;refine⟨"list",_,slot_list_getitem.lookup,ht.isList.typeIs,?_⟩;refine wpAny_getItem_list_slice ht.isList hs pl pu .none (by simp) ?_ (by rw[List.size_toArray]<;>omega);rw[X6,←hlen];refine⟨.ref s.heap.objs.size,_,I.laid (t':=s.toks) (o:=.lst (Ta xs lo hi)) (fun b ob q=>Heap.get?_push_of_some _ q) (Nat.le_refl _) ?_,rfl,q _ (I.hok.fresh (Nat.le_refl _))⟩;exact⟨Nat.le_trans (Ts xs lo hi) hz,_,0,(r.drop (HT.sIx xs.length 0 lo)).take (HT.sIx xs.length xs.length hi-HT.sIx xs.length 0 lo),Heap.get?_push_size _ rfl⟩
theorem aY:Ei X (.builtin "len") (fun xs H Q=>∃p ys,xs=[.ref p]/\(SqL X.K H p ys\/Dw X.K H p ys)/\Q (.int ys.length) H):=by
 intro Ac s σ H xs us Q I r h;obtain⟨p,ys,rfl,hq,q⟩:=h;obtain⟨u,rfl,rx⟩:=Md r;cases rx;have hn:=aB;rcases hq with hq | hq
 . obtain⟨its,r',pl,hz⟩:=I.list hq;have hlen:=r'.length;exact Calls.call_len_list pl.isList (by simp only[List.size_toArray]<;>omega) ⟨.int ys.length,H,I.tok _,⟨s.toks+1,by rw[List.size_toArray,hlen]⟩,q⟩
 . obtain⟨its,r',pl,hz⟩:=I.tuple hq;have hlen:=r'.length;exact len_tuple pl (by simp only[List.size_toArray]<;>omega) ⟨.int ys.length,H,I.tok _,⟨s.toks+1,by rw[List.size_toArray,hlen]⟩,q⟩
theorem AX:Ei X (.type "list") (fun xs H Q=>∃p ys,xs=[.ref p]/\(SqL X.K H p ys\/Dw X.K H p ys)/\∀l,H l=none->Q (.ref l) (upd H l (.lst ys))):=by
 intro Ac s σ H xs us Q I r h;obtain⟨p,ys,rfl,hq,q⟩:=h;obtain⟨u,rfl,rx⟩:=Md r;cases rx
 have fin:∀(its:List Value),Vals ys its->ys.length<=sizeLine->∀(h':Heap) (c':Nat),(∀b o',s.heap.get? b=some o'->h'.get? b=some o') →
  h'.get? s.heap.objs.size=some { cls:=.type "list",dict:=none,data:=.seq its.toArray c',slots:=#[] }->EP X Ac σ Q (.ref s.heap.objs.size) { s with heap:=h' }:=fun its r' hz h' c' kp e =>
  ⟨.ref s.heap.objs.size,_,I.laid (t':=s.toks) kp (Nat.le_refl _) (show ObjOk X.prog X.w _ h' _ (.lst ys) from⟨hz,its,c',r',e⟩),rfl,q _ (I.hok.fresh (Nat.le_refl _))⟩
 rcases hq with hq | hq
 . obtain⟨its,r',pl,hz⟩:=I.list hq;have hlen:=r'.length;obtain⟨o,ho,hc,n,hd⟩:=pl.isList;exact call_list_seq p (.inl rfl) ho hc hd (fun h' c' kp e=>fin its r' hz h' c' kp e) (by simp only[List.size_toArray]<;>omega)
 . obtain⟨its,r',pl,hz⟩:=I.tuple hq;have hlen:=r'.length;obtain⟨o,ho,hc,n,hd⟩:=pl;exact call_list_seq p (.inr rfl) ho hc hd (fun h' c' kp e=>fin its r' hz h' c' kp e) (by simp only[List.size_toArray]<;>omega)
theorem Z0:Ei X (.type "tuple") (fun xs H Q=>∃p ys,xs=[.ref p]/\((SqL X.K H p ys/\∀l,H l=none->Q (.ref l) (upd H l (.tup ys)))\/(Dw X.K H p ys/\Q (.ref p) H))):=by
 intro Ac s σ H xs us Q I r h;obtain⟨p,ys,rfl,h⟩:=h;obtain⟨u,rfl,rx⟩:=Md r;cases rx;rcases h with⟨hq,q⟩|⟨hq,q⟩
 . obtain⟨its,r',pl,hz⟩:=I.list hq;have hlen:=r'.length;refine call_tuple_list pl.isList (fun h' kp=>?_) (by simp only[List.size_toArray]<;>omega);have I1:Inv X Ac σ H { s with heap:=h' }:=I.kept (t':=s.toks) kp
   have I2:Inv X Ac σ (upd H h'.objs.size (.tup ys)) { s with heap:=h'.push { cls:=.type "tuple",data:=.seq its.toArray } } :=
    I1.laid (t':=s.toks) (fun b o e=>Heap.get?_push_of_some _ e) (Nat.le_refl _) (show ObjOk X.prog X.w _ _ _ (.tup ys) from⟨hz,its,r',Jd.new _ _⟩)
   exact⟨.ref h'.objs.size,_,I2,rfl,q _ (I1.hok.fresh (Nat.le_refl _))⟩
 . obtain⟨its,r',pl,hz⟩:=I.tuple hq;exact call_tuple_same pl ⟨.ref p,H,I,rfl,q⟩
def YF(K:W.Frag)(T:String)(x:V)(H:Hp):Prop:=match x with
 | .str _=>T="str"
 | .int _=>T="int"
 | .ref p=>(T="list"/\∃xs,SqL K H p xs)\/(T="tuple"/\∃o,K.lookup p=some o/\o.cls=.type "tuple"/\o.dict=none) ∨
    (T="dict"/\((∃kvs,H p=some (.dK kvs))\/∃kvs,H p=some (.dT kvs)))\/(T="set"/\∃S n,H p=some (.set S n))
 | _=>False
theorem KN{Ac:LAObj}{σ:St}{H:Hp}{s:Shared}{T:String}{x:V}{v:Value}(I:Inv X Ac σ H s)(r:RelV x v)(ty:YF X.K T x H) :
 s.TypeIs v T/\∀a,v=.ref a->∃ob,s.heap.get? a=some ob/\ob.dict=none:=by
 cases x with
 | str z =>
   obtain⟨t,rfl⟩:=r;cases (show T="str" from ty);exact⟨typeIs_str s z t,fun _ e=>nomatch e⟩
 | int i =>
   obtain⟨t,rfl⟩:=r;cases (show T="int" from ty);exact⟨typeIs_int s i t,fun _ e=>nomatch e⟩
 | ref p =>
   cases r;rcases ty with⟨rfl,xs,hq⟩|⟨rfl,o,hk,hc,hd⟩|⟨rfl,hk⟩|⟨rfl,S,n,hk⟩
   . obtain⟨its,_,pl,_⟩:=I.list hq;refine⟨pl.isList.typeIs,fun a e=>?_⟩;cases e;obtain⟨o,n,e,c,hd,_⟩:=pl;exact⟨o,e,hd⟩
   . refine⟨⟨o,I.kIn p o hk,hc⟩,fun a e=>?_⟩;cases e;exact⟨o,I.kIn _ o hk,hd⟩
   . have z:∃o,s.heap.get? p=some o/\o.ExactDict:=by
      rcases hk with⟨kvs,hk⟩|⟨kvs,hk⟩
      . obtain⟨_,_,_,_,o,_,_,e,ex,_⟩:=I.hok p _ hk;exact⟨o,e,ex⟩
      . obtain⟨_,_,_,_,o,_,_,e,ex,_⟩:=I.hok p _ hk;exact⟨o,e,ex⟩
     obtain⟨o,e,ex⟩:=z;refine⟨⟨o,e,ex.1⟩,fun a e2=>?_⟩;cases e2;exact⟨o,e,ex.2.1⟩
   . obtain⟨o,_,_,_,e,ex,_⟩:=I.hok p _ hk;refine⟨⟨o,e,ex.1⟩,fun a e2=>?_⟩;cases e2;exact⟨o,e,ex.2.1⟩
 | _=>exact False.elim ty
def UU(K:W.Frag)(T:String)(r:V->List V->Hp->VK->Prop)(to:TE):TE:=fun σ H Q=>to σ H fun x H1=>YF K T x H1/\r x [] H1 Q
def tBM(K:W.Frag)(T:String)(r:V->List V->Hp->VK->Prop)(to:TE)(t:TA):TE:=fun σ H Q=>to σ H fun x H1=>YF K T x H1/\t σ H1 fun xs H2=>r x xs H2 Q
variable{o e:Expr}{es:List Expr}{to:TE}{t:TA}{name:Str}{apos cpos:Pos}{T id:String}{r:V->List V->Hp->VK->Prop}
theorem rY(pa:PlainAttrs T)(slot:Slot T name id)(hty:typeOf (.builtin id)=pure (.type "method_descriptor"))(hm:yC X id r)(ho:PE X o to)
 (hbase:attributeBase o name X.env (eval o X.env)=eval o X.env:=by rfl) (hline:(apos.endLine==cpos.line)=true:=by rfl):PE X (.Call (.Attribute o name apos) [] [] cpos) (UU X.K T r to):=by
 intro Ac s σ H Q I h;refine wpAny_Call_method0_late hbase hline (Bu (ho Ac s σ H _ I h) fun v s1 ⟨x,H1,I1,r1,ty,q1⟩=>?_);obtain⟨h1,h2⟩:=KN I1 r1 ty;exact⟨T,id,pa,slot,hty,h1,h2,Calls.callWith_builtin rfl (PySem.evalArgs_none (hm Ac s1 σ H1 x [] v [] Q I1 r1 .nil q1))⟩
theorem VE(pa:PlainAttrs T)(slot:Slot T name id)(hty:typeOf (.builtin id)=pure (.type "method_descriptor"))(hm:yC X id r)(ho:PE X o to)(ha:PA X (e::es) t)
 (hbase:attributeBase o name X.env (eval o X.env)=eval o X.env:=by rfl)
 (hfew:((backTo cpos (starEach (e::es) X.env)).all (fun x=>!x.1)&&(backToKw cpos (keywordEach [] X.env)).all (fun x=>x.1.isSome)
   && decide ((e::es).length+([]:List Keyword).length+(if ([]:List Keyword).isEmpty then 0 else 1)<30))=true:=by rfl)
 (hline:(apos.endLine==cpos.line)=true:=by rfl) (hs:starEach (e::es) X.env=(false,eval e X.env)::starEach es X.env:=by rfl) (hplain:(backTo cpos (starEach es X.env)).any (·.1)=false:=by rfl) :
 PE X (.Call (.Attribute o name apos) (e::es) [] cpos) (tBM X.K T r to t):=by
 intro Ac s σ H Q I h;refine wpAny_Call_method_late hbase hfew hline rfl (Bu (ho Ac s σ H _ I h) fun v s1 ⟨x,H1,I1,r1,ty,q1⟩=>?_);obtain⟨h1,h2⟩:=KN I1 r1 ty;refine⟨T,id,pa,slot,hty,h1,h2,?_⟩;have hA:=ha cpos Ac s1 σ H1 _ I1 q1;rw[hs]at hA ⊢;refine Calls.callWith_builtin (by show(false || (backTo cpos (starEach es X.env)).any (·.1))=false;rw[hplain]<;>rfl) (Calls.evalArgs_plain ?_);exact Bu hA fun us s2 ⟨vs,H2,I2,r2,q2⟩=>hm Ac s2 σ H2 x vs v us Q I2 r1 r2 q2
end
def MtM(X:Cx)(id:String)(r:V->List V->Hp->VK->Prop):Prop :=
 ∀(Ac:LAObj) (s:Shared) (σ:St) (H:Hp) (x:V) (xs:List V) (v:Value) (us:List Value) (Q:VK),Inv X Ac σ H s->RelV x v->Vals xs us->r x xs H Q →
   wpAny (model X.prog X.w) X.A (call (.builtin id) (v::us)) (EP X Ac σ Q) X.xe s
theorem Vals.one:∀{x:V}{us:List Value},Vals [x] us->∃u,us=[u]/\RelV x u
 | _,_,.cons r .nil=>⟨_,rfl,r⟩
theorem Vals.zero:∀{us:List Value},Vals [] us->us=[]
 | _,.nil=>rfl
theorem Vals.dropLast{xs:List V}{us:List Value}(h:Vals xs us):Vals xs.dropLast us.dropLast:=by
 induction h with
 | nil=>exact .nil
 | cons r t ih =>
   cases t with
   | nil=>exact .nil
   | cons q t'=>exact .cons r ih
theorem FA{α:Type}(l:List α):l.eraseIdx (l.length-1)=l.dropLast:=by
 induction l with
 | nil=>rfl
 | cons a r ih =>
   cases r with
   | nil=>rfl
   | cons b r =>
     have e:(a::b::r).length-1=((b::r).length-1)+1:=by
      have h1:(a::b::r).length=r.length+2:=rfl;have h2:(b::r).length=r.length+1:=rfl;omega
     rw[e,List.eraseIdx_cons_succ,ih]
     all_goals rfl
section
variable{X:Cx}{Ac:LAObj}{σ:St}{H:Hp}{s:Shared}{l b:Addr}{xs ys zs:List V}
theorem Inv.lset{its its':List Value}{n:Nat}{f:Array Value->Array Value}{t':Nat}(I:Inv X Ac σ H s)(hH:H l=some (.lst xs))
 (e:s.heap.get? l=some { cls:=.type "list",data:=.seq its.toArray n }) (hf:f its.toArray=its'.toArray) (hv:Vals ys its') (hz:ys.length<=sizeLine) :
 Inv X Ac σ (upd H l (.lst ys)) { s with heap:=s.heap.update l (Obj.mapSeq f),toks:=t' }:=by
 have q:=PySem.IsL.update e f;rw[hf]at q;refine I.write (x:=l) (e:=l) (by rw[hH];exact trivial) (.inl rfl) (fun b' u hb hu=>(Heap.get?_update_other s.heap (Obj.mapSeq f) (Ne.symm hb)).trans hu) ⟨_,q⟩ ?_;exact⟨hz,its',_,hv,q⟩
theorem Inv.lnew{its:List Value}{t':Nat}(I:Inv X Ac σ H s)(hv:Vals ys its)(hz:ys.length<=sizeLine) :
 Inv X Ac σ (upd H s.heap.objs.size (.lst ys)) { s with heap:=s.heap.push { cls:=.type "list",data:=.seq its.toArray },toks:=t' } :=
 I.laid (fun _ _ q=>Heap.get?_push_of_some _ q) (Nat.le_refl _) ⟨hz,its,0,hv,Heap.get?_push_size _ rfl⟩
theorem Inv.fresh(I:Inv X Ac σ H s):H s.heap.objs.size=none:=I.hok.fresh (Nat.le_refl _)
theorem Inv.lstM(I:Inv X Ac σ H s)(hH:H l=some (.lst xs)):xs.length<=sizeLine/\∃(its:List Value) (n:Nat),Vals xs its/\xs.length=its.length/\s.heap.get? l=some { cls:=.type "list",data:=.seq its.toArray n }:=by
 obtain⟨z,its,n,r,e⟩:=I.hok l _ hH;exact⟨z,its,n,r,r.length,e⟩
end
section
variable{X:Cx}
def OU:V->List V->Hp->VK->Prop:=fun x vs H Q=>∃l xs y,x=.ref l/\vs=[y]/\H l=some (.lst xs)/\xs.length<sizeLine/\Q .non (upd H l (.lst (xs++[y])))
theorem Fh:MtM X "list.append" OU:=by
 intro Ac s σ H x vs v us Q I rx rv h;obtain⟨l,xs,y,rfl,rfl,hH,hz,q⟩:=h;cases rx;obtain⟨u,rfl,ru⟩:=rv.one;obtain⟨z,its,n,r,hl,e⟩:=I.lstM hH;refine call_meets F.slot_list_append ⟨_,e,rfl⟩ F.entry_list_append (F.args_list_append_2 _ _) (PySem.list_append l its.toArray n u (by rw[List.size_toArray];omega)) ⟨e,?_⟩;refine⟨.non,_,I.lset (its':=its++[u]) hH e (by simp) (r.append (.cons ru .nil)) ?_,rfl,q⟩;rw[List.length_append,List.length_singleton];omega
def yQ:V->List V->Hp->VK->Prop:=fun x vs H Q=>∃l xs y,x=.ref l/\vs=[]/\H l=some (.lst xs)/\xs[xs.length-1]?=some y/\Q y (upd H l (.lst xs.dropLast))
theorem EM:MtM X "list.pop" yQ:=by
 intro Ac s σ H x vs v us Q I rx rv h;obtain⟨l,xs,y,rfl,rfl,hH,hy,q⟩:=h;cases rx;have pU:=rv.zero;subst pU;obtain⟨z,its,n,r,hl,e⟩:=I.lstM hH;obtain⟨u,hu,ru⟩:=r.get hy
 have hy':its.toArray[its.toArray.size-1]?=some u:=by
  show its.toArray[its.length-1]?=some u;rw[←Array.getElem?_toList,←hl];exact hu
 refine call_meets F.slot_list_pop ⟨_,e,rfl⟩ F.entry_list_pop (F.args_list_pop_1 _) (MeetsSeq.list_pop_last l its.toArray n u hy' (by rw[List.size_toArray];omega)) ⟨e,?_⟩;refine⟨y,_,I.lset (its':=its.dropLast) hH e ?_ r.dropLast ?_,ru,q⟩
 . show its.toArray.eraseIdxIfInBounds (its.toArray.size-1)=its.dropLast.toArray;rw[List.size_toArray,List.eraseIdxIfInBounds_toArray,FA]
 . rw[List.length_dropLast];omega
end
section
variable{prog:Program}{w:World}{A:Around}{E:Value->Shared->Prop}{s:Shared}
end
section
variable{X:Cx}
end
end L2
namespace Att
open PySem PySem.W PySem.Calls PyProof.Rows
theorem Uq{P:Params}{h:Heap}:∀(ns:List Int) (vs:List Value),WellAll P h vs (ns.map WData.int)->IntsAre vs ns:=by
 intro ns
 induction ns with
 | nil =>
   intro vs w;rw[List.map_nil]at w;cases w;exact .nil
 | cons n ns ih =>
   intro vs w;rw[List.map_cons]at w;cases w with
   | cons a b =>
     cases a;exact .cons _ _ (ih _ b)
theorem HS{l:OpenLaw}{n:Nat}(hn:l.most=some n){P:Params}{h:Heap}{args:List WData}{vals:List Value}
 (hpre:l.row.toRowW.claim.pre args=true) (hwl:WellAll P h vals args) :
 ∃a vs ns,vals=[Value.ref a]/\args=[WData.list (ns.map WData.int)]/\h.get? a=some { cls:=.type "list",data:=.seq vs.toArray }/\IntsAre vs ns/\ns.length<=n:=by
 have hsh:WShape.hasAll [] args [.list .int]=true:=(pre_splitW hpre).1;have hc:l.pre.holds [] { args:=args }=true:=(pre_splitW hpre).2;obtain⟨d,r,rfl,h1,h2⟩:=hasAllW_cons hsh;obtain rfl:=hasAllW_nil h2;obtain⟨xs,rfl,h3⟩:=hasW_list h1;obtain⟨ns,rfl⟩:=items_int h3
 have hlen:ns.length<=n:=by
  unfold OpenLaw.pre at hc
  have h4:(WTm.not (.lt (.lit (.int (n:Int))) (.len (.arg 0)))).holds [] { args:=[.list (ns.map .int)] }=true:=by
   have h4:=(holds_andW hc).1;rw[hn]at h4;exact h4
  have h5:=condW_of h4 (w_not (w_lt w_lit (w_len_list (w_arg rfl))));rw[List.length_map]at h5;refine Nat.le_of_not_lt fun q=>?_;have q':(n:Int)<((ns.length:Nat):Int):=by omega
  first
   | (rw[decide_eq_true q']at h5;exact absurd h5 (by decide))
   | (simp at h5;omega)
 cases hwl with
 | cons w1 w2 =>
   cases w2;cases w1 with
   | list ho hall=>exact⟨_,_,ns,rfl,rfl,ho,Uq ns _ hall,hlen⟩
theorem HY(l:OpenLaw)(args:List WData):l.row.toRowW.claim.post args (.bool true) args=true :=
 postW_of (r:=l.row.toRowW) (X:=(true==true))
  (show WShape.has [] (.bool true) .bool=true by first | rfl | decide | simp[WShape.has,WShape.arms,WShape.armsAll])
  (show(WTm.eq .res (.lit (.bool true))).value [] { args:=args,res:=some (.bool true),after:=args }=some (.bool (true==true)) from w_eq_bool (w_res rfl) w_lit) rfl
theorem attach_call{l:OpenLaw}{n:Nat}{q:Program}{loose:List Str}{XP:(Str->Option Value)->Heap->Prop}{YP:World->Heap->Prop}{d:DefRec}
 (hn:l.most=some n) (hdf:d.params.defaults=[])
 (call:∀(w:World) (s₀ s₁:Shared) (mg mb:Str->Option Value) (fa:Addr) (o:Obj) (pm cd doc:Value) (a:Addr) (vs:List Value) (ns:List Int),
   Ground q loose [] XP w s₀ mg mb s₁.heap->YP w s₁.heap →
   s₁.heap.get? fa=some o->o.data=.func (docDef d.name d.params d.body d.scope pm cd doc)->s₁.heap.CodeRec cd d.name->mg d.name=some (.ref fa) →
   s₁.heap.get? a=some { cls:=.type "list",data:=.seq vs.toArray }->IntsAre vs ns->ns.length<=n->s₁.gens=#[] →
   codeAny (model l.prog w) callerA (.call (.ref fa) ⟨[.ref a],[]⟩) (fun r s'=>r=.ok (.ret (.bool true))/\OldK s₁.heap s'.heap/\s'.os=s₁.os/\AllBare s'.gens) s₁) :
 WalkO q loose XP YP l.row.toRowW d [] (fun f vs=>PySem.call f vs):=by
 intro w s₀ s₁ mg mb G Y fa o pm cd doc dV kV ho hd hcd hD hmg hg args vals as hpre hlay hrd hwl hlo;obtain rfl:dV=.none:=Dflts.none hD hdf;obtain rfl:kV=.none:=Dflts.noKw hD;obtain⟨a,vs,ns,rfl,rfl,hobj,hints,hlen⟩:=HS hn hpre hwl;refine enter_call (codeAny_mono (call w s₀ s₁ mg mb fa o pm cd doc a vs ns G Y ho (fd_plain hd) hcd hmg hobj hints hlen hg) fun r s' hq=>?_);obtain⟨rfl,h2,h3,h4⟩:=hq;exact⟨.inl ⟨.bool true,.bool true,[],rfl,fun _=>rfl,.bool true,HY l _,fun _=>⟨List.Pairwise.nil,fun _ hm=>(nomatch hm)⟩⟩,h2,h3,h4⟩
section
variable{prog:Program}{w:World}{A:Around}{E:Value->Shared->Prop}{s:Shared}{K:Frag}
end
end Att
namespace L2
open PySem PySem.Spec PyProof.Rows
theorem b5:∀{vs:List Value}{ns:List Int},IntsAre vs ns->Vals (ns.map V.int) vs
 | _,_,.nil=>.nil
 | _,_,.cons n t h=>.cons ⟨t,rfl⟩ (b5 h)
def TZ(H:Hp):Prop:=∀b,H b=none\/∃o xs,H b=some (.frz o (.lst xs))
theorem MK{P:Program}{w:World}{K:W.Frag}{mg mb:Str->Option Value}{CX:KJ}{k:Nat}{fa a:Addr}{fd:FuncData}{x:Str}{sp:Sp}{s₁:Shared}{vs:List Value}{ns:List Int}
 (KX:K.In s₁.heap) (hns:s₁.heap.Ns mainGlobals mg) (hb:s₁.heap.Ns builtinsNs mb) (pX:∀x:Str,x≠"__name__"->mb x=bootBuiltins x) (hlim:s₁.heap.NoLimit) (hg:s₁.gens=#[])
 (ha:s₁.heap.get? a=some { cls:=.type "list",data:=.seq vs.toArray }) (hi:IntsAre vs ns) (hl:ns.length<=sizeLine) (hr:Di k callerA)
 (F:∀base:Heap,K.In base->base.Ns mainGlobals mg->Bj P w K mg base CX k fa fd [x] sp) (hbind:∀(s:Shared) (u:Value),BindsTo s fd ⟨[u],[]⟩ [(x,u)])
 (dD:∀H:Hp,TZ H->SqL K H a (ns.map V.int)->sp [.ref a] H (fun v _=>v=.bl true) fun _ _ _=>False)
 (zW:∀H e s',CX [] H s₁ (fun _ _ _=>False) e s'->False) :
 codeAny (model P w) callerA (.call (.ref fa) ⟨[.ref a],[]⟩) (fun r s'=>r=.ok (.ret (.bool true))/\OldK s₁.heap s'.heap/\s'.os=s₁.os/\AllBare s'.gens) s₁:=by
 have rv:=b5 hi;have zA:=hi.length
 have core:∀H:Hp,TZ H->SqL K H a (ns.map V.int)->L4 P w H s₁.heap->(∀b,H b≠none->b=a)->(H a≠none->K.lookup a=none) →
  codeAny (model P w) callerA (.call (.ref fa) ⟨[.ref a],[]⟩) (fun r s'=>r=.ok (.ret (.bool true))/\OldK s₁.heap s'.heap/\s'.os=s₁.os/\AllBare s'.gens) s₁:=by
  intro H hO hS hok hA hK;have gQ:∀{b:Addr}{o:Obj},s₁.heap.get? b=some o->H b=none->(AI s₁.heap H).get? b=some o:=fun e n=>MT e n
  have vI:∀{b:Addr}{o:Obj}{es:Array DictEntry}{ep:Nat},s₁.heap.get? b=some o->o.data=.dict es ep->H b=none:=fun {b o es ep} e d=>by
   cases q:H b with
   | none=>rfl
   | some u =>
     have e':b=a:=hA b (by rw[q];simp);subst e';rw[ha]at e;cases e;have d':Data.seq vs.toArray _=Data.dict es ep:=d;cases d'
  have XD:∀{b:Addr}{m:Str->Option Value},s₁.heap.Ns b m->(AI s₁.heap H).Ns b m:=fun {b m} ⟨o,es,ep,e,d,r⟩=>⟨o,es,ep,gQ e (vI e d),d,r⟩
  have hKb:K.In (AI s₁.heap H):=fun b o e=>gQ (KX b o e) (by
   cases q:H b with
   | none=>rfl
   | some u =>
     have e':b=a:=hA b (by rw[q];simp);subst e';rw[hK (by rw[q];simp)]at e;cases e)
  have hM:Mod K mg (AI s₁.heap H):=⟨hKb,XD hns,⟨mb,XD hb,pX⟩,let ⟨mc,h1,h2⟩:=hlim;⟨mc,XD h1,h2⟩⟩
  have e0:fQ P w K mg (AI s₁.heap H) callerA [] s₁ H:=⟨rfl,hM,fun b o e=>pL e,Nat.le_of_eq (jH _ _),trivial,fun b hb=>absurd (show b∈([]:List Addr) from hb) (by simp),hok,.of_eq hg⟩
  refine codeAny_mono ((F _ hKb (XD hns)).run callerA [] s₁ H ⟨[.ref a],[]⟩ [.ref a] [.ref a] _ _ hr e0 (hbind s₁ (.ref a)) (.cons rfl .nil) (dD H hO hS)) fun r s' h=>?_;cases r with
  | error e=>exact(zW H e s' h).elim
  | ok fl =>
    cases fl with
    | next=>exact False.elim h
    | brk=>exact False.elim h
    | cont=>exact False.elim h
    | ret u =>
      obtain⟨v,H',os,bare,un,zI,r',q⟩:=h;have q':v=.bl true:=q;subst q';obtain rfl:u=Value.bool true:=r';refine⟨rfl,OldK.of_keep fun b o e=>?_,os,bare⟩;cases q:H b with
      | none=>exact un.keep b o e q (by intro z;exact absurd (show b∈([]:List Addr) from z) (by simp)) (by simp)
      | some u =>
        rcases hO b with z|⟨ob,xs,z⟩
        . rw[q]at z;cases z
        . have z2:=un.frzs b ob _ z;obtain⟨e1,_⟩:=hok b _ z;obtain⟨e2,_⟩:=zI b _ z2;rw[e]at e1;cases e1;exact e2
 cases hk:K.lookup a with
 | some o =>
   have e:=KX a o hk;rw[ha]at e;cases e;refine core (fun _=>none) (fun _=>.inl rfl) (.inr ⟨_,vs.toArray,_,hk,rfl,rfl,rfl,by rw[List.size_toArray,zA];exact hl,by simpa using rv⟩) (fun b u z=>by have z':(none:Option HO)=some u:=z;cases z') (fun b z=>absurd rfl z) fun z=>absurd rfl z
 | none =>
   refine core (fun b=>if b=a then some (.frz { cls:=.type "list",data:=.seq vs.toArray } (.lst (ns.map V.int))) else none) (fun b=>?_) (.inl (.inr ⟨{ cls:=.type "list",data:=.seq vs.toArray },if_pos rfl⟩)) (fun b u z=>?_) (fun b z=>?_) fun _=>hk
   . by_cases hb:b=a
     . exact .inr ⟨_,_,if_pos hb⟩
     . exact .inl (if_neg hb)
   . by_cases hb:b=a
     . have z':=(if_pos hb).symm.trans z;cases z';subst hb;exact⟨ha,by rw[List.length_map];exact hl,vs,_,rv,ha⟩
     . have z':=(if_neg hb).symm.trans z;cases z'
   . by_cases hb:b=a
     . exact hb
     . exact absurd (if_neg hb) z
theorem walk_of{l:PySem.W.OpenLaw}{n k:Nat}{q:Program}{loose:List Str}{XP:(Str->Option Value)->Heap->Prop}{YP:World->Heap->Prop}{d:DefRec}{K:Params->PySem.W.Frag}{CX:World->KJ}{sp:World->Sp}{x:Str}
 (hn:l.most=some n) (hn2:n<=sizeLine) (hdf:d.params.defaults=[]) (hr:Di k callerA)
 (hY:∀(w:World) (h:Heap),YP w h->(K w.params).In h)
 (F:∀(w:World) (mg:Str->Option Value) (fa:Addr) (h:Heap),(K w.params).In h->h.Ns mainGlobals mg->mg d.name=some (.ref fa) →
   ∃fd:FuncData,(∀(s:Shared) (u:Value),BindsTo s fd ⟨[u],[]⟩ [(x,u)]) ∧
     ∀base:Heap,(K w.params).In base->base.Ns mainGlobals mg->Bj l.prog w (K w.params) mg base (CX w) k fa fd [x] (sp w))
 (dD:∀(w:World) (H:Hp) (a:Addr) (ns:List Int),ns.length<=n->TZ H->SqL (K w.params) H a (ns.map V.int)->sp w [.ref a] H (fun v _=>v=.bl true) fun _ _ _=>False)
 (zW:∀(w:World) (H:Hp) (s:Shared) (e:Value) (s':Shared),CX w [] H s (fun _ _ _=>False) e s'->False) :
 PySem.W.WalkO q loose XP YP l.row.toRowW d [] (fun f vs=>PySem.call f vs):=by
 refine Att.attach_call hn hdf fun w s₀ s₁ mg mb fa o pm cd doc a vs ns G Y ho hd hcd hmg hobj hints hlen hg=>?_;have KX:=hY w _ Y;obtain⟨fd,hb,hF⟩:=F w mg fa _ KX G.T.g hmg;exact MK KX G.T.g G.T.b G.T.builtins G.T.nolimit hg hobj hints (Nat.le_trans hlen hn2) hr hF hb (fun H hO hS=>dD w H a ns hlen hO hS) fun H e s'=>zW w H s₁ e s'
def Gh(s:Stmt)(j:Nat):Stmt:=match s with
 | .ClassDef _ _ _ body _ _ _ _ _ _ _=>body.getD j (.Pass ⟨0,0,0,0⟩)
 | _=>.Pass ⟨0,0,0,0⟩
def A0(s:Stmt):Arguments:=match s with
 | .FunctionDef _ a _ _ _ _ _ _ _ _=>a
 | _=>{ posonlyargs:=[],args:=[],vararg:=none,kwonlyargs:=[],kw_defaults:=[],kwarg:=none,defaults:=[] }
def Ay(s:Stmt):List Stmt:=match s with
 | .FunctionDef _ _ b _ _ _ _ _ _ _=>b
 | _=>[]
def Ai(s:Stmt):Scope:=match s with
 | .FunctionDef _ _ _ _ _ _ sc _ _ _=>sc
 | _=>{ kind:=.function,names:=[],isGenerator:=false,isCoroutine:=false }
abbrev Er:KJ:=fun _ _ _ _ _ _=>False
abbrev E0:XK:=fun _ _ _=>False
theorem BP{X:Cx}:P0 Er X E0:=fun _ _ _ _ _ _ _ h=>h.elim
structure Fo(K:W.Frag)(x qual:Str)(st:Stmt)(f:Addr)(fd:FuncData):Prop where
 ex:∃(oc:Value) (od:OAddr) (kV doc pm:Value) (an:OAddr) (Cl ct:Value) (osl:Bd),
  fd=W.fnOf x qual (A0 st) (Ay st) (Ai st) .none kV doc pm an Cl ct/\K.lookup f=some ⟨oc,od,.func fd,osl⟩/\W.codeIn K Cl qual=true
 kp:W.keepIn K (.ref f)=true
section
variable{P:Program}{w:World}{K:W.Frag}{mg:Str->Option Value}{base:Heap}
theorem Fo.ok{x qual:Str}{st:Stmt}{f:Addr}{fd:FuncData}{N ps:List Str}{k:Nat}{sp:Sp}(F:Fo K x qual st f fd)(S:FnScope N ps (Ai st))(len:∀vs H Q E,sp vs H Q E->vs.length=ps.length)
 (hbody:∀(Cl:Value) (A:Around) (outer:List Env) (s:Shared) (H:Hp) (vs:List V) (Q:VK) (E:XK),Di k (A.deeper (envOfC qual (Ai st) s.heap.objs.size f Cl))->sp vs H Q E →
   ∃t,BB (Xk Er P w K mg base N qual (Ai st) f Cl A outer s H E).nox (Ay st) t/\t { nx:=fun _ H'=>Q .non H',rt:=Q } (start N vs) H):Bj P w K mg base Er (k+1) f fd ps sp:=by
 obtain⟨oc,od,kV,doc,pm,an,Cl,ct,osl,rfl,lk,hcd⟩:=F.ex;refine mZ lk hcd S len fun A outer s H vs Q E hr dD=>?_;obtain⟨t,h,q⟩:=hbody Cl A outer s H vs Q E hr dD;exact⟨t,h.nox,q⟩
theorem Fo.binds{x qual:Str}{st:Stmt}{f:Addr}{fd:FuncData}{ps:List Str}(F:Fo K x qual st f fd)
 (h:∀(kV doc pm:Value) (an:OAddr) (Cl ct:Value) (us:List Value),us.length=ps.length->bindArgs (W.fnOf x qual (A0 st) (Ay st) (Ai st) .none kV doc pm an Cl ct) ⟨us,[]⟩=pure (ps.zip us)):Ey K fd ps []:=by
 obtain⟨oc,od,kV,doc,pm,an,Cl,ct,osl,rfl,lk,hcd⟩:=F.ex;exact .all (h kV doc pm an Cl ct)
theorem A9{x qual:Str}{st:Stmt}{f:Addr}{oc:Value}{od an:OAddr}{osl:Bd}{kV doc pm Cl ct:Value}(l:K.lookup f=some ⟨oc,od,.func (W.fnOf x qual (A0 st) (Ay st) (Ai st) .none kV doc pm an Cl ct),osl⟩)
 (c:W.codeIn K Cl qual=true) (k:W.keepIn K (.ref f)=true):Fo K x qual st f (W.fnOf x qual (A0 st) (Ay st) (Ai st) .none kV doc pm an Cl ct):=⟨⟨oc,od,kV,doc,pm,an,Cl,ct,osl,rfl,l,c⟩,k⟩
end
section
variable{X:Cx}
theorem pv(i:Nat){x:Str}{pos:Pos}(hN:X.N[i]?=some x:=by rfl)(hv:UL X.env.scope x:=by first | exact Or.inl rfl | exact Or.inr (Or.inl rfl) | exact Or.inr (Or.inr rfl))(hd:(x==("__debug__":Str))=false:=by decide)
 (hcd:(x==("__classdict__":Str))=false:=by decide):PE X (.Name x pos) (UO i):=rX hN hv hd hcd
end
theorem ite2{c A B:Prop}[Decidable c](h1:c->A)(h2:¬c->B):if c then A else B:=by
 by_cases h:c
 . rw[if_pos h];exact h1 h
 . rw[if_neg h];exact h2 h
def Same(H H':Hp):Prop:=∀b o,H b=some o->H' b=some o
theorem Same.refl(H:Hp):Same H H:=fun _ _ h=>h
theorem Same.trans{H H1 H2:Hp}(a:Same H H1)(b:Same H1 H2):Same H H2:=fun c o h=>b c o (a c o h)
theorem Same.free{H H':Hp}(e:Same H H'){l:Addr}(h:H' l=Option.none):H l=Option.none:=by
 cases q:H l with
 | none=>rfl
 | some o =>
   rw[e l o q]at h;cases h
theorem Same.seq{K:W.Frag}{H H':Hp}{a:Addr}{xs:List V}(e:Same H H')(h:SqL K H a xs):SqL K H' a xs:=by
 rcases h with(h|⟨o,h⟩) | h
 . exact .inl (.inl (e _ _ h))
 . exact .inl (.inr ⟨o,e _ _ h⟩)
 . exact .inr h
section
variable{κ:Type}[DecidableEq κ]
def Ia(kvs:List (κ × V))(k:κ):Option V:=(kvs.find? fun kv=>decide (kv.1=k)).map (·.2)
def Km(kvs:List (κ × V))(k:κ)(v:V):List (κ × V) :=
 if (kvs.any fun kv=>decide (kv.1=k))=true then kvs.map (fun kv=>if kv.1=k then(kv.1,v) else kv) else kvs++[(k,v)]
def Qv(kvs:List (κ × V))(k:κ):List (κ × V):=kvs.filter fun kv=>decide (kv.1≠k)
theorem Vc{p:κ × V}{r:List (κ × V)}{k:κ}(e:p.1=k):Ia (p::r) k=some p.2:=by simp[Ia,List.find?_cons,e]
theorem Vd{p:κ × V}{r:List (κ × V)}{k:κ}(e:¬p.1=k):Ia (p::r) k=Ia r k:=by simp[Ia,List.find?_cons,e]
theorem bC(k:κ):∀kvs:List (κ × V),(kvs.any fun kv=>decide (kv.1=k))=(Ia kvs k).isSome
 | []=>rfl
 | p::r=>by
   rw[List.any_cons];by_cases e:p.1=k
   . simp only[Vc e,decide_eq_true e,Bool.true_or,Option.isSome_some]
   . rw[Vd e,decide_eq_false e,Bool.false_or];exact bC k r
theorem Mz(kvs:List (κ × V))(k:κ)(v:V):(Km kvs k v).length<=kvs.length+1:=by
 unfold Km;split
 . rw[List.length_map];omega
 . rw[List.length_append,List.length_cons,List.length_nil];omega
theorem Jc.isSome_eq{o:Option V}{u:Option Value}(r:Jc o u):o.isSome=u.isSome:=by
 cases o with
 | none=>cases u with
   | none=>rfl
   | some _=>exact(show False from r).elim
 | some _=>cases u with
   | none=>exact(show False from r).elim
   | some _=>rfl
theorem Jc.getD{o:Option V}{u:Option Value}{d:V}{d':Value}(r:Jc o u)(rd:RelV d d'):RelV (o.getD d) (u.getD d'):=by
 cases o with
 | none=>cases u with
   | none=>exact rd
   | some _=>exact(show False from r).elim
 | some _=>cases u with
   | none=>exact(show False from r).elim
   | some _=>exact r
theorem KV.val{kvs:List (κ × V)}{vs:List (κ × Value)}(r:KV kvs vs)(k:κ):Jc (Ia kvs k) (valueAt vs k):=by
 unfold KV at r
 induction r with
 | nil=>exact True.intro
 | @cons p q ps qs h t ih =>
   obtain⟨h1,h2⟩:=h;by_cases e:p.1=k
   . have e':q.1=k:=h1.symm.trans e;have b:valueAt (q::qs) k=some q.2:=by simp[valueAt,List.find?_cons,e']
     rw[Vc e,b];exact h2
   . have e':¬q.1=k:=fun z=>e (h1.trans z);have b:valueAt (q::qs) k=valueAt qs k:=by simp[valueAt,List.find?_cons,e']
     rw[Vd e,b];exact ih
theorem KV.any{kvs:List (κ × V)}{vs:List (κ × Value)}(r:KV kvs vs)(k:κ):(kvs.any fun kv=>decide (kv.1=k))=vs.any fun kv=>decide (kv.1=k):=by
 unfold KV at r
 induction r with
 | nil=>rfl
 | cons h t ih=>rw[List.any_cons,List.any_cons,ih,h.1]
theorem KV.repl{kvs:List (κ × V)}{vs:List (κ × Value)}(r:KV kvs vs)(k:κ){y:V}{u:Value}(ry:RelV y u) :
 KV (kvs.map fun kv=>if kv.1=k then(kv.1,y) else kv) (vs.map fun kv=>if kv.1=k then(kv.1,u) else kv):=by
 unfold KV at r ⊢
 induction r with
 | nil=>exact .nil
 | @cons p q ps qs h t ih =>
   rw[List.map_cons,List.map_cons];refine .cons ?_ ih;obtain⟨h1,h2⟩:=h;by_cases e:p.1=k
   . rw[if_pos e,if_pos (h1.symm.trans e)];exact⟨h1,ry⟩
   . rw[if_neg e,if_neg (fun z=>e (h1.trans z))];exact⟨h1,h2⟩
theorem KV.put{kvs:List (κ × V)}{vs:List (κ × Value)}(r:KV kvs vs)(k:κ){y:V}{u:Value}(ry:RelV y u):KV (Km kvs k y) (stored vs k u):=by
 unfold Km stored;rw[r.any k];by_cases e:(vs.any fun kv=>decide (kv.1=k))=true
 . rw[if_pos e,if_pos e];exact r.repl k ry
 . rw[if_neg e,if_neg e];exact Paired.snoc r ⟨rfl,ry⟩
theorem KV.drop{kvs:List (κ × V)}{vs:List (κ × Value)}(r:KV kvs vs)(k:κ):KV (Qv kvs k) (without vs k):=by
 unfold KV at r ⊢;unfold Qv without
 induction r with
 | nil=>exact .nil
 | @cons p q ps qs h t ih =>
   obtain⟨h1,h2⟩:=h;rw[List.filter_cons,List.filter_cons];by_cases e:p.1=k
   . have a:¬decide (p.1≠k)=true:=by simp[e]
     have b:¬decide (q.1≠k)=true:=by simp[h1.symm.trans e]
     rw[if_neg a,if_neg b];exact ih
   . have e':¬q.1=k:=fun z=>e (h1.trans z);have a:decide (p.1≠k)=true:=by simp[e]
     have b:decide (q.1≠k)=true:=by simp[e']
     rw[if_pos a,if_pos b];exact .cons ⟨h1,h2⟩ ih
theorem KV.keys{kvs:List (κ × V)}{vs:List (κ × Value)}(r:KV kvs vs):kvs.map (·.1)=vs.map (·.1):=by
 unfold KV at r
 induction r with
 | nil=>rfl
 | cons h t ih=>rw[List.map_cons,List.map_cons,ih,h.1]
theorem KV.length{kvs:List (κ × V)}{vs:List (κ × Value)}(r:KV kvs vs):kvs.length=vs.length:=Paired.length r
theorem cH(kvs:List (κ × V))(k:κ):(Qv kvs k).length<=kvs.length:=List.length_filter_le _ _
end
theorem kV_is{P:Program}{w:World}{k:Key}{u:Value}(r:RelV (kV k) u):(mixKind P w).is k u=true:=by
 cases k with
 | inl i=>obtain⟨t,e⟩:=(show ∃t,u=Value.int i t from r);subst e;exact bY P w i t
 | inr x=>obtain⟨t,e⟩:=(show ∃t,u=Value.str x t from r);subst e;exact BX P w x t
theorem d7{P:Program}{w:World}:∀{ks:List Key}{us:List Value},Vals (ks.map kV) us->ItemsAre (mixKind P w) ks us
 | [],_,r=>by rw[List.map_nil]at r;cases r;exact .nil
 | k::ks,_,r=>by
   rw[List.map_cons]at r;cases r with
   | cons h t=>exact .cons (kV_is h) (d7 t)
abbrev KT(H:Hp):List (List Key × V)->List (List Key × Addr × Value)->Prop:=Paired fun p q=>p.1=q.1/\H q.2.1=some (.tup (p.1.map kV))/\RelV p.2 q.2.2
theorem KT.val{H:Hp}{kvs:List (List Key × V)}{xs:List (List Key × Addr × Value)}(r:KT H kvs xs)(k:List Key):Jc (Ia kvs k) ((atKey xs k).map (·.2)):=by
 induction r with
 | nil=>exact True.intro
 | @cons p q ps qs h t ih =>
   obtain⟨h1,_,h2⟩:=h;by_cases e:p.1=k
   . have e':q.1=k:=h1.symm.trans e;have b:atKey (q::qs) k=some q.2:=by simp[atKey,List.find?_cons,e']
     rw[Vc e,b];exact h2
   . have e':¬q.1=k:=fun z=>e (h1.trans z);have b:atKey (q::qs) k=atKey qs k:=by simp[atKey,List.find?_cons,e']
     rw[Vd e,b];exact ih
theorem KT.repl{H:Hp}{kvs:List (List Key × V)}{xs:List (List Key × Addr × Value)}(r:KT H kvs xs)(k:List Key){y:V}{u:Value}(ry:RelV y u) :
 KT H (kvs.map fun kv=>if kv.1=k then(kv.1,y) else kv) (xs.map (putAt k u)):=by
 induction r with
 | nil=>exact .nil
 | @cons p q ps qs h t ih =>
   rw[List.map_cons,List.map_cons];refine .cons ?_ ih;obtain⟨h1,h2,h3⟩:=h;unfold putAt;by_cases e:p.1=k
   . rw[if_pos e,if_pos (h1.symm.trans e)];exact⟨h1,h2,ry⟩
   . rw[if_neg e,if_neg (fun z=>e (h1.trans z))];exact⟨h1,h2,h3⟩
theorem KT.put{H:Hp}{kvs:List (List Key × V)}{xs:List (List Key × Addr × Value)}(r:KT H kvs xs)(k:List Key){b:Addr}{y:V}{u:Value}(hb:H b=some (.tup (k.map kV)))(ry:RelV y u) :
 KT H (Km kvs k y) (storedH xs k b u):=by
 have e:(kvs.any fun kv=>decide (kv.1=k))=(atKey xs k).isSome:=by
  rw[bC,(r.val k).isSome_eq,Option.isSome_map]
 unfold Km storedH;rw[e];by_cases q:(atKey xs k).isSome=true
 . rw[if_pos q,if_pos q];exact r.repl k ry
 . rw[if_neg q,if_neg q];exact Paired.snoc r ⟨rfl,hb,ry⟩
theorem KT.keeps{H H':Hp}{kvs:List (List Key × V)}{xs:List (List Key × Addr × Value)}(r:KT H kvs xs)(ht:∀b ys,H b=some (.tup ys)->H' b=some (.tup ys)):KT H' kvs xs :=
 Paired.mapP r fun _ _ z=>⟨z.1,ht _ _ z.2.1,z.2.2⟩
section
variable{P:Program}{w:World}{H:Hp}{h:Heap}{a:Addr}
theorem QK{u:HO}(ok:L4 P w H h)(e:Rd H a u):ObjOk P w H h a u:=e.ok ok
theorem J2{kvs:List (Key × V)}(ok:L4 P w H h)(e:Rd H a (.dK kvs)):kvs.length<=sizeLine/\(a==sysModules)=false/\∃vs,KV kvs vs/\h.DictOf (mixKind P w) a vs :=
 show ObjOk P w H h a (.dK kvs) from QK ok e
theorem g5{kvs:List (Key × V)}(ok:L4 P w H h)(e:H a=some (.dK kvs)):kvs.length<=sizeLine/\(a==sysModules)=false/\∃vs,KV kvs vs/\h.DictOf (mixKind P w) a vs:=J2 ok (.inl e)
theorem So{ks:List Key}(ok:L4 P w H h)(e:H a=some (.tup (ks.map kV))):(tupleKind (mixKind P w)).is h ks a:=by
 obtain⟨_,its,r,o,h1,h2,_,n,h3⟩:=(show ObjOk P w H h a (.tup (ks.map kV)) from ok a _ e)
 exact⟨o,its.toArray,n,h1,h2,h3,by simpa using d7 r⟩
theorem Xe{kvs:List (List Key × V)}(ok:L4 P w H h)(e:Rd H a (.dT kvs)):kvs.length<=sizeLine/\(a==sysModules)=false ∧
 ∃xs,KT H kvs xs/\h.DictOfH (tupleKind (mixKind P w)) a xs:=by
 obtain⟨z,y,xs,r,o,es,ep,h1,h2,h3,h4,h5⟩:=(show ObjOk P w H h a (.dT kvs) from QK ok e)
 refine⟨z,y,xs,r,o,es,ep,h1,h2,h3,h4,fun x hx=>?_,h5⟩
 have all:∀{l:List (List Key × V)}{m:List (List Key × Addr × Value)},KT H l m->∀x∈m,(tupleKind (mixKind P w)).is h x.1 x.2.1:=by
  intro l m q
  induction q with
  | nil=>intro x hx;exact nomatch hx
  | @cons p q ps qs hq t ih =>
    intro x hx;rcases List.mem_cons.mp hx with e | hx
    . subst e;exact So ok (by rw[←hq.1];exact hq.2.1)
    . exact ih x hx
 exact all r x hx
theorem WO{kvs:List (List Key × V)}(ok:L4 P w H h)(e:H a=some (.dT kvs)):kvs.length<=sizeLine/\(a==sysModules)=false ∧
 ∃xs,KT H kvs xs/\h.DictOfH (tupleKind (mixKind P w)) a xs:=Xe ok (.inl e)
end
def DGet(H:Hp)(a:Addr)(y:V)(r:Option V):Prop :=
 (∃kvs k,Rd H a (.dK kvs)/\y=kV k/\r=Ia kvs k)\/∃kvs k b,Rd H a (.dT kvs)/\y=.ref b/\H b=some (.tup (k.map kV))/\r=Ia kvs k
def UC(H:Hp)(a:Addr)(y v:V)(H':Hp):Prop :=
 (∃kvs k,H a=some (.dK kvs)/\y=kV k/\kvs.length<sizeLine/\H'=upd H a (.dK (Km kvs k v))) ∨
 ∃kvs k b,H a=some (.dT kvs)/\y=.ref b/\H b=some (.tup (k.map kV))/\kvs.length<sizeLine/\H'=upd H a (.dT (Km kvs k v))
theorem DGet.k{H:Hp}{a:Addr}{kvs:List (Key × V)}{k:Key}(e:H a=some (.dK kvs)):DGet H a (kV k) (Ia kvs k):=.inl ⟨kvs,k,.inl e,rfl,rfl⟩
section
variable{X:Cx}{Ac:LAObj}{σ:St}{H:Hp}{s:Shared}{a:Addr}{y v:V}{u r:Value}{o:Option V}{A:Around}{E:Value->Shared->Prop}
theorem Inv.big(I:Inv X Ac σ H s):sysModules<s.heap.objs.size:=by
 have h:mainGlobals<s.heap.objs.size:=(I.mod.glob.keeps I.bk).lt;exact Nat.lt_trans (by decide) h
theorem JP{Q:Value->Shared->Prop}(hu:A.units+1<cLine)(I:Inv X Ac σ H s)(g:DGet H a y (some v))(ry:RelV y u)(h:∀w' s',Inv X Ac σ H s'->RelV v w'->Q w' s') :
 wpAny (model X.prog X.w) A (getItem (.ref a) u) Q E s:=by
 rcases g with⟨kvs,k,e,ey,l⟩|⟨kvs,k,b,e,ey,eb,l⟩
 . subst ey;obtain⟨z,hd,vs,rel,dd⟩:=J2 I.hok e;obtain⟨w',hw,rw'⟩:=Jc.some_of (v:=v) (o:=valueAt vs k) (by rw[l];exact rel.val k);exact wpAny_getItem_of (kV_is ry) dd.mapOf hw (h w' _ (I.tok _) rw')
 . subst ey;cases (show u=Value.ref b from ry);obtain⟨z,hd,xs,rel,dd⟩:=Xe I.hok e;obtain⟨w',hw,rw'⟩:=Jc.some_of (v:=v) (o:=(atKey xs k).map (·.2)) (by rw[l];exact rel.val k);obtain⟨p,hp,hp2⟩:=Option.map_eq_some_iff.mp hw;refine wpAny_getItem_heap (tupleKind_room_in1 hu) (So I.hok eb) dd hp ?_;rw[hp2];exact h w' _ (I.tok _) rw'
theorem Ac3{Q:Value->Shared->Prop}(hu:A.units+1<cLine)(I:Inv X Ac σ H s)(g:DGet H a y o)(ry:RelV y u)(h:∀s',Inv X Ac σ H s'->Q (.bool o.isSome) s') :
 wpAny (model X.prog X.w) A (compareOp .In u (.ref a)) Q E s:=by
 rcases g with⟨kvs,k,e,ey,l⟩|⟨kvs,k,b,e,ey,eb,l⟩
 . subst ey;obtain⟨z,hd,vs,rel,dd⟩:=J2 I.hok e;refine wpAny_in_of (kV_is ry) hd dd.mapOf ?_;rw[←(rel.val k).isSome_eq,←l];exact h _ (I.tok _)
 . subst ey;cases (show u=Value.ref b from ry);obtain⟨z,hd,xs,rel,dd⟩:=Xe I.hok e;refine wpAny_in_heap (tupleKind_room_in1 hu) (So I.hok eb) hd dd ?_;have q:=(rel.val k).isSome_eq;rw[Option.isSome_map]at q;rw[←q,←l];exact h _ (I.tok _)
theorem N7{h':Heap}{t':Nat}{ob:HO}(I:Inv X Ac σ H s)(mu:Mut (H a))(hs:Heap.SameBut a s.heap h')(he:∃q,h'.get? a=some q)(new:ObjOk X.prog X.w (upd H a ob) h' a ob) :
 Inv X Ac σ (upd H a ob) { s with heap:=h',toks:=t' } :=
 I.write (x:=a) (e:=a) mu (.inl rfl) (fun b q hb z=>(hs.2 b hb).trans z) he new
theorem Pn{P:Program}{w:World}{H':Hp}{h':Heap}{kvs:List (Key × V)}{vs:List (Key × Value)}(z:kvs.length<=sizeLine)(hd:(a==sysModules)=false)(rel:KV kvs vs)(dd:h'.DictOf (mixKind P w) a vs) :
 ObjOk P w H' h' a (.dK kvs):=⟨z,hd,vs,rel,dd⟩
theorem jP{H':Hp}{Q:Unit->Shared->Prop}(hu:A.units+1<cLine)(I:Inv X Ac σ H s)(g:UC H a y v H')(ry:RelV y u)(rv:RelV v r)(h:∀s',Inv X Ac σ H' s'->Q () s') :
 wpAny (model X.prog X.w) A (setItem (.ref a) u r) Q E s:=by
 rcases g with⟨kvs,k,e,ey,l,eH⟩|⟨kvs,k,b,e,ey,eb,l,eH⟩
 . subst ey eH;obtain⟨z,hd,vs,rel,dd⟩:=g5 I.hok e;have hz:vs.length<=sizeLine:=by rw[←rel.length];exact z
   have hl:(Km kvs k v).length<=sizeLine:=by have:=Mz kvs k v;omega
   refine wpAny_setItem_pairs (hsz:=hz) (kV_is ry) dd fun h' bB hs=>h _ ?_;have he:∃q,h'.get? a=some q:=let ⟨q,_,_,hq,_⟩:=bB;⟨q,hq⟩
   exact N7 I (by rw[e];exact True.intro) hs he (Pn hl hd (rel.put k rv) bB)
 . subst ey eH;cases (show u=Value.ref b from ry);obtain⟨z,hd,xs,rel,dd⟩:=WO I.hok e;have hz:xs.length<=sizeLine:=by rw[←Paired.length rel];exact z
   have hl:(Km kvs k v).length<=sizeLine:=by have:=Mz kvs k v;omega
   refine wpAny_setItem_heap (hsz:=hz) (tupleKind_room_in1 hu) (So I.hok eb) dd fun h' bB hs=>h _ ?_;obtain⟨q,es,ep,hq,h2,h3,h4,_,h5⟩:=bB;refine N7 I (by rw[e];exact True.intro) hs ⟨q,hq⟩ ⟨hl,hd,_,(rel.put k eb rv).keeps fun c ys ec=>?_,q,es,ep,hq,h2,h3,h4,h5⟩;rw[Ae (Dh ec e (fun z=>nomatch z))];exact ec
end
section
variable{X:Cx}{Ac:LAObj}{σ:St}{H:Hp}{s:Shared}{a:Addr}{kvs:List (Key × V)}{k:Key}{u:Value}{A:Around}{E:Value->Shared->Prop}
theorem uL{Q:Unit->Shared->Prop}(I:Inv X Ac σ H s)(e:H a=some (.dK kvs))(ry:RelV (kV k) u)(l:(Ia kvs k).isSome=true)(h:∀s',Inv X Ac σ (upd H a (.dK (Qv kvs k))) s'->Q () s') :
 wpAny (model X.prog X.w) A (delItem (.ref a) u) Q E s:=by
 obtain⟨z,hd,vs,rel,dd⟩:=g5 I.hok e
 refine wpAny_delItem_slot dd.typeIs (by decide) PySem.F.slot_dict_delitem
  (call_meetsIn PySem.F.slot_dict_delitem dd.typeIs PySem.F.entry_dict_delitem (PySem.F.args_dict_delitem_2 _ _) (meets_dict_delitem_pairs (mixKind X.prog X.w) a (kV_is ry)) ⟨vs,dd,by rw[←rel.length];exact z,by rw[←(rel.val k).isSome_eq];exact l,fun h' bB hs=>h _ ?_⟩)
 have he:∃q,h'.get? a=some q:=let ⟨q,_,_,hq,_⟩:=bB;⟨q,hq⟩
 exact N7 I (by rw[e];exact True.intro) hs he (Pn (Nat.le_trans (cH kvs k) z) hd (rel.drop k) bB)
theorem qY{v:V}{more:List Value}{Q:Value->Shared->Prop}(I:Inv X Ac σ H s)(e:H a=some (.dK kvs))(ry:RelV (kV k) u)(l:Ia kvs k=some v)(hm:more=[]\/∃x,more=[x])
 (h:∀w' s',Inv X Ac σ (upd H a (.dK (Qv kvs k))) s'->RelV v w'->Q w' s'):wpAny (model X.prog X.w) A (call (.builtin "dict.pop") (.ref a::u::more)) Q E s:=by
 obtain⟨z,hd,vs,rel,dd⟩:=g5 I.hok e;obtain⟨w',hw,rw'⟩:=Jc.some_of (v:=v) (o:=valueAt vs k) (by rw[←l];exact rel.val k)
 have hp:(keyPart u).isSome=true:=by
  cases k with
  | inl i=>obtain⟨t,q⟩:=(show ∃t,u=Value.int i t from ry);subst q;rfl
  | inr x=>obtain⟨t,q⟩:=(show ∃t,u=Value.str x t from ry);subst q;rfl
 have ha:argsOk "dict.pop" ⟨.ref a::u::more,[]⟩:=by
  rcases hm with q|⟨x,q⟩
  . subst q;exact PySem.F.args_dict_pop_2 _ _
  . subst q;exact PySem.F.args_dict_pop_3 _ _ _
 refine call_meetsIn PySem.F.slot_dict_pop dd.typeIs PySem.F.entry_dict_pop ha (meets_dict_pop_there (mixKind X.prog X.w) a (kV_is ry) more hm hp)
  ⟨vs,w',dd,by rw[←rel.length];exact z,hw,fun h' bB hs=>h w' _ ?_ rw'⟩
 have he:∃q,h'.get? a=some q:=let ⟨q,_,_,hq,_⟩:=bB;⟨q,hq⟩
 exact N7 I (by rw[e];exact True.intro) hs he (Pn (Nat.le_trans (cH kvs k) z) hd (rel.drop k) bB)
theorem tS{r:Value}{Q:Value->Shared->Prop}(I:Inv X Ac σ H s)(e:H a=some (.dK kvs))(ry:RelV (kV k) u)(l:Ia kvs k=none)(h:∀s',Inv X Ac σ H s'->Q r s') :
 wpAny (model X.prog X.w) A (call (.builtin "dict.pop") [.ref a,u,r]) Q E s:=by
 obtain⟨z,hd,vs,rel,dd⟩:=g5 I.hok e;have hn:valueAt vs k=none:=Jc.none_of (by rw[←l];exact rel.val k)
 have hp:(keyPart u).isSome=true:=by
  cases k with
  | inl i=>obtain⟨t,q⟩:=(show ∃t,u=Value.int i t from ry);subst q;rfl
  | inr x=>obtain⟨t,q⟩:=(show ∃t,u=Value.str x t from ry);subst q;rfl
 exact call_meetsIn PySem.F.slot_dict_pop dd.typeIs PySem.F.entry_dict_pop (PySem.F.args_dict_pop_3 _ _ _) (meets_dict_pop_default (mixKind X.prog X.w) a (kV_is ry) hd hp r) ⟨vs,dd,hn,h _ (I.tok _)⟩
theorem QD{Q:Value->Shared->Prop}(I:Inv X Ac σ H s)(e:H a=some (.dK kvs))(h:∀s',Inv X Ac σ (upd H a (.dK [])) s'->Q .none s'):wpAny (model X.prog X.w) A (call (.builtin "dict.clear") [.ref a]) Q E s:=by
 obtain⟨z,hd,vs,rel,dd⟩:=g5 I.hok e;refine call_meetsIn PySem.F.slot_dict_clear dd.typeIs PySem.F.entry_dict_clear (PySem.F.args_dict_clear_1 _) (meets_dict_clear (mixKind X.prog X.w) a) ⟨vs,dd,by rw[←rel.length];exact z,fun h' bB hs=>h _ ?_⟩;have he:∃q,h'.get? a=some q:=let ⟨q,_,_,hq,_⟩:=bB;⟨q,hq⟩
 exact N7 (t':=s.toks) I (by rw[e];exact True.intro) hs he (Pn (Nat.zero_le _) hd .nil bB)
theorem WR{Q:Value->Shared->Prop}(I:Inv X Ac σ H s)(e:Rd H a (.dK kvs))(h:∀t s',Inv X Ac σ H s'->Q (.int kvs.length t) s'):wpAny (model X.prog X.w) A (call (.builtin "len") [.ref a]) Q E s:=by
 obtain⟨z,hd,vs,rel,dd⟩:=J2 I.hok e;refine call_len_dict hd dd (by rw[←rel.length];rw[sizeLine_eq]at z;omega) ?_;rw[←rel.length];exact h _ _ (I.tok _)
end
def NoSl(i:Expr):Prop:=∀ov iv,subscripted i false ov iv=operate [ov,iv] (getItem ov iv)
theorem OP{prog:Program}{w:World}{A:Around}{E:Value->Shared->Prop}{s:Shared}{env:Env}{value slice:Expr}{pos:Pos}{T id:String}{Q:Value->Shared->Prop}
 (hl:typeLookup (.type T) "__getitem__"=pure (some (.builtin id))) (hs:NoSl slice)
 (h:wpAny (model prog w) A (eval value env) (fun o s₁=>wpAny (model prog w) A (eval slice env) (fun i s₂=>s₂.TypeIs o T/\wpAny (model prog w) A (getItem o i) Q E s₂) E s₁) E s) :
 wpAny (model prog w) A (eval (.Subscript value slice pos) env) Q E s:=by
 refine Subscript_ (wpAny_mono h (fun o s₁ h₁=>wpAny_mono h₁ (fun i s₂ h₂=>?_) fun _ _ x=>x) fun _ _ x=>x);obtain⟨hT,h₂⟩:=h₂;unfold subscriptTail;refine wpAny_bind ?_;rw[getitemInPython_of_ne hT.not_modules];refine wpAny_bind (wpAny_specialOf hT hl ?_)
 have fin:wpAny (model prog w) A (subscripted slice false o i) (fun r s₃=>wpAny (model prog w) A (letTemporaryGo value o r>>=fun _=>pure r) Q E s₃) E s₂:=by
  rw[hs o i];exact wpAny_operating (wpAny_mono h₂ (fun r s₃ h₃=>wpAny_bind (wpAny_letTemporaryGo (wpAny_pure h₃))) fun _ _ x=>x)
 first
  | exact wpAny_pure (wpAny_bind fin)
  | exact wpAny_bind (wpAny_pure (wpAny_bind fin))
  | exact wpAny_bind fin
theorem CH{X:Cx}{Ac:LAObj}{σ:St}{H:Hp}{s:Shared}{a:Addr}{y:V}{o:Option V}(I:Inv X Ac σ H s)(g:DGet H a y o):s.TypeIs (.ref a) "dict":=by
 rcases g with⟨kvs,k,e,_,_⟩|⟨kvs,k,b,e,_,_,_⟩
 . obtain⟨_,_,vs,_,dd⟩:=J2 I.hok e;exact dd.typeIs
 . obtain⟨_,_,xs,_,dd⟩:=Xe I.hok e;exact dd.typeIs
def UT(td ty:TE):TE:=fun σ H Q=>td σ H fun x H1=>ty σ H1 fun y H2=>∃a v,x=.ref a/\DGet H2 a y (some v)/\Q v H2
def uZ(td ty tv:TE):TS:=fun D σ H=>tv σ H fun v H1=>td σ H1 fun x H2=>ty σ H2 fun y H3=>∃a H4,x=.ref a/\UC H3 a y v H4/\D.nx σ H4
section
variable{X:Cx}{o i e value:Expr}{pos pos' tpos:Pos}{td ty tv:TE}
theorem U4(hu:X.A.units+1<cLine)(ho:PE X o td)(hi:PE X i ty)(hs:NoSl i):PE X (.Subscript o i pos) (UT td ty):=by
 intro Ac s σ H Q I h;refine OP PySem.F.slot_dict_getitem.lookup hs (Bu (ho Ac s σ H _ I h) fun u s1 ⟨x,H1,I1,rx,q1⟩=>Bu (hi Ac s1 σ H1 _ I1 q1) fun iv s2 ⟨y,H2,I2,ry,a,v,ex,g,q2⟩=>?_);subst ex;obtain rfl:u=Value.ref a:=rx;exact⟨CH I2 g,JP hu I2 g ry fun w' s3 I3 rw'=>⟨v,H2,I3,rw',q2⟩⟩
theorem U2(hu:X.A.units+1<cLine)(ho:PE X o td)(hi:PE X i ty)(hv:PE X value tv)(hs:swapsWith value (some (.Subscript o i pos')) pos.line X.env=pure false) :
 PS X (.Assign [.Subscript o i pos'] value pos) (uZ td ty tv):=by
 intro Ac s σ H D I h;refine wpAny_Assign_Subscript (Bu (hv Ac s σ H _ I h) fun r s1 ⟨v,H1,I1,rv,q1⟩=>Bu (ho Ac s1 σ H1 _ I1 q1) fun u s2 ⟨x,H2,I2,rx,q2⟩=>Bu (hi Ac s2 σ H2 _ I2 q2) fun iv s3 ⟨y,H3,I3,ry,a,H4,ex,g,q3⟩=>?_) hs;subst ex;obtain rfl:u=Value.ref a:=rx;exact jP hu I3 g ry rv fun s4 I4=>⟨σ,H4,I4,q3⟩
end
theorem dk_empty{P:Program}{w:World}{H:Hp}(h:Heap)(hb:sysModules<h.objs.size):ObjOk P w H (h.push { cls:=.type "dict",data:=.dict #[] }) h.objs.size (.dK []) :=
 ⟨Nat.zero_le _,beq_eq_false_iff_ne.mpr (Ne.symm (Nat.ne_of_lt hb)),[],.nil,Heap.DictOf.new h⟩
def rK:TE:=fun _ H Q=>∀p,H p=none->Q (.ref p) (upd H p (.dK []))
section
variable{X:Cx}{pos:Pos}
theorem Mq:PE X (.Dict [] [] pos) rK:=fun Ac s σ H Q I h =>
 wpAny_Dict_empty ⟨.ref s.heap.objs.size,_,I.laid (a:=s.heap.objs.size) (o:=.dK []) (t':=s.toks) (fun _ _ q=>Heap.get?_push_of_some _ q) (Nat.le_refl _) (dk_empty s.heap I.big),rfl,h _ (I.hok.fresh (Nat.le_refl _))⟩
end
def tPairs:List (TE × TE)->St->Hp->(List (V × V)->Hp->Prop)->Prop
 | [],_,H,Q=>Q [] H
 | (tk,tv)::r,σ,H,Q=>tk σ H fun x H1=>tv σ H1 fun y H2=>tPairs r σ H2 fun ps H3=>Q ((x,y)::ps) H3
abbrev VV:List (V × V)->List (Value × Value)->Prop:=Paired fun p q=>RelV p.1 q.1/\RelV p.2 q.2
def YB(X:Cx)(pos:Pos)(keys:List (Option Expr))(values:List Expr)(OM:List (TE × TE)):Prop :=
 ∀(Ac:LAObj) (s:Shared) (σ:St) (H:Hp) (Q:List (V × V)->Hp->Prop),Inv X Ac σ H s->tPairs OM σ H Q →
   wpAny (model X.prog X.w) X.A (evalPairs (pairTrees keys values X.env pos)) (fun vs s'=>∃ps H',Inv X Ac σ H' s'/\VV ps vs/\Q ps H') X.xe s
theorem oW{X:Cx}{pos:Pos}:YB X pos [] [] []:=fun Ac s σ H Q I h=>pairTrees_nil_walk ⟨[],H,I,.nil,h⟩
theorem lD{X:Cx}{pos:Pos}{k v:Expr}{ks:List (Option Expr)}{vs:List Expr}{tk tv:TE}{OM:List (TE × TE)}(hk:PE X k tk)(hv:PE X v tv)(hr:YB X pos ks vs OM) :
 YB X pos (some k::ks) (v::vs) ((tk,tv)::OM):=fun Ac s σ H Q I h =>
 pairTrees_cons_walk (Bu (hk Ac s σ H _ I h) fun u s1 ⟨x,H1,I1,rx,q1⟩=>Bu (hv Ac s1 σ H1 _ I1 q1) fun w2 s2 ⟨y,H2,I2,ry,q2⟩ =>
  Bu (hr Ac s2 σ H2 _ I2 q2) fun ws s3 ⟨ps,H3,I3,rel,q3⟩=>⟨(x,y)::ps,H3,I3,.cons ⟨rx,ry⟩ rel,q3⟩)
def Fi(kvs more:List (Key × V)):List (Key × V):=more.foldl (fun acc kv=>Km acc kv.1 kv.2) kvs
theorem KV.merge:∀{more:List (Key × V)}{rs:List (Key × Value)}{kvs:List (Key × V)}{vs:List (Key × Value)},KV more rs->KV kvs vs->KV (Fi kvs more) (merged vs rs):=by
 intro more rs kvs vs r;unfold KV at r
 induction r generalizing kvs vs with
 | nil=>intro q;exact q
 | @cons p q ps qs h t ih =>
   intro r0
   have e:KV (Km kvs p.1 p.2) (stored vs q.1 q.2):=by
    have:=r0.put p.1 h.2;rw[←h.1];exact this
   exact ih e
theorem Iz:∀(more kvs:List (Key × V)),(Fi kvs more).length<=kvs.length+more.length
 | [],kvs=>by show kvs.length<=kvs.length+0;omega
 | p::r,kvs=>by
   have h1:=Iz r (Km kvs p.1 p.2);have h2:=Mz kvs p.1 p.2;show(Fi (Km kvs p.1 p.2) r).length<=_;rw[List.length_cons];omega
theorem Xv{P:Program}{w:World}:∀{kvs:List (Key × V)}{ws:List (Value × Value)},VV (kvs.map fun kv=>(kV kv.1,kv.2)) ws->∃rs,Carries (mixKind P w) ws rs/\KV kvs rs
 | [],_,r=>by rw[List.map_nil]at r;cases r;exact⟨[],True.intro,.nil⟩
 | p::kvs,_,r=>by
   rw[List.map_cons]at r;cases r with
   | @cons a b as bs h t =>
     obtain⟨rs,c,q⟩:=Xv (P:=P) (w:=w) t;obtain⟨b1,b2⟩:=b;exact⟨(p.1,b2)::rs,⟨kV_is h.1,rfl,c⟩,.cons ⟨rfl,h.2⟩ q⟩
def uT(OM:List (TE × TE)):TE:=fun σ H Q=>∀p,H p=none->tPairs OM σ (upd H p (.dK [])) fun ps H2=>H2 p=some (.dK [])/\∃kvs:List (Key × V),ps=kvs.map (fun kv=>(kV kv.1,kv.2))/\kvs.length<=15/\Q (.ref p) (upd H2 p (.dK (Fi [] kvs)))
theorem PB{X:Cx}{pos:Pos}{keys:List (Option Expr)}{values:List Expr}{OM:List (TE × TE)}(h:YB X pos keys values OM)(hall:keys.all (·.isSome)=true)(hl:keys.length=values.length)(h0:keys≠[])
 (h15:keys.length<=15):PE X (.Dict keys values pos) (uT OM):=by
 intro Ac s σ H Q I q;have hn:=I.hok.fresh (Nat.le_refl s.heap.objs.size);have I1:=I.laid (a:=s.heap.objs.size) (o:=.dK []) (h':=s.heap.push { cls:=.type "dict",data:=.dict #[] }) (t':=s.toks) (fun _ _ q=>Heap.get?_push_of_some _ q) (Nat.le_refl _) (dk_empty s.heap I.big);refine wpAny_Dict_walk (knd:=mixKind X.prog X.w) hall hl h0 h15 (Bu (h Ac _ σ _ _ I1 (q _ hn)) fun ws s2 ⟨ps,H2,I2,rel,e,kvs,ep,lk,q2⟩=>?_);subst ep;obtain⟨rs,c,rk⟩:=Xv (P:=X.prog) (w:=X.w) rel;obtain⟨z,hd,vs0,r0,dd⟩:=g5 I2.hok e;cases r0;refine⟨rs,c,dd,fun h' bB hs=>⟨.ref s.heap.objs.size,_,?_,rfl,q2⟩⟩
 have hz:(Fi [] kvs).length<=sizeLine:=by
  have h1:=Iz kvs [];rw[List.length_nil]at h1;rw[sizeLine_eq];omega
 have he:∃q,h'.get? s.heap.objs.size=some q:=let ⟨q,_,_,hq,_⟩:=bB;⟨q,hq⟩
 exact N7 I2 (by rw[e];exact True.intro) hs he (Pn hz hd (rk.merge .nil) bB)
structure M1(X:Cx)(o:Expr)(m:Str)(apos:Pos)(e:Expr)(cpos:Pos):Prop where
 base:attributeBase o m X.env (eval o X.env)=eval o X.env
 few:((backTo cpos (starEach [e] X.env)).all (fun x=>!x.1)&&(backToKw cpos (keywordEach [] X.env)).all (fun x=>x.1.isSome)
  && decide (([e]:List Expr).length+([]:List Keyword).length+(if ([]:List Keyword).isEmpty then 0 else 1)<30))=true
 line:(apos.endLine==cpos.line)=true
 trees:backTo cpos (starEach [e] X.env)=[(false,eval e X.env)]
structure M2(X:Cx)(o:Expr)(m:Str)(apos:Pos)(e f:Expr)(cpos:Pos):Prop where
 base:attributeBase o m X.env (eval o X.env)=eval o X.env
 few:((backTo cpos (starEach [e,f] X.env)).all (fun x=>!x.1)&&(backToKw cpos (keywordEach [] X.env)).all (fun x=>x.1.isSome)
  && decide (([e,f]:List Expr).length+([]:List Keyword).length+(if ([]:List Keyword).isEmpty then 0 else 1)<30))=true
 line:(apos.endLine==cpos.line)=true
 trees:backTo cpos (starEach [e,f] X.env)=[(false,eval e X.env),(false,eval f X.env)]
def IsD(H:Hp)(a:Addr):Prop:=(∃kvs,Rd H a (.dK kvs))\/∃kvs,Rd H a (.dT kvs)
theorem Ww{X:Cx}{Ac:LAObj}{σ:St}{H:Hp}{s:Shared}{a:Addr}(I:Inv X Ac σ H s)(d:IsD H a) :
 s.TypeIs (.ref a) "dict"/\(∀b,Value.ref a=.ref b->∃ob,s.heap.get? b=some ob/\ob.dict=none)/\(a==sysModules)=false:=by
 rcases d with⟨kvs,e⟩|⟨kvs,e⟩
 . obtain⟨_,hd,vs,_,dd⟩:=J2 I.hok e;refine⟨dd.typeIs,fun b q=>?_,hd⟩;cases q;obtain⟨ob,_,_,h1,h2,_⟩:=dd;exact⟨ob,h1,h2.2.1⟩
 . obtain⟨_,hd,xs,_,dd⟩:=Xe I.hok e;refine⟨dd.typeIs,fun b q=>?_,hd⟩;cases q;obtain⟨ob,_,_,h1,h2,_⟩:=dd;exact⟨ob,h1,h2.2.1⟩
section
variable{X:Cx}{Ac:LAObj}{σ:St}{H:Hp}{s:Shared}{a:Addr}{y d:V}{u r:Value}{o:Option V}{A:Around}{E:Value->Shared->Prop}
theorem tU{Q:Value->Shared->Prop}(hu:A.units+1<cLine)(I:Inv X Ac σ H s)(g:DGet H a y o)(ry:RelV y u)(h:∀w' s',Inv X Ac σ H s'->RelV (o.getD .non) w'->Q w' s') :
 wpAny (model X.prog X.w) A (call (.builtin "dict.get") [.ref a,u]) Q E s:=by
 rcases g with⟨kvs,k,e,ey,l⟩|⟨kvs,k,b,e,ey,eb,l⟩
 . subst ey;obtain⟨z,hd,vs,rel,dd⟩:=J2 I.hok e;refine call_meetsIn PySem.F.slot_dict_get dd.typeIs PySem.F.entry_dict_get (PySem.F.args_dict_get_2 _ _) (meets_dict_get (mixKind X.prog X.w) a (kV_is ry) hd) ⟨_,dd.mapOf,h _ _ (I.tok _) ?_⟩;rw[l];exact(rel.val k).getD rfl
 . subst ey;cases (show u=Value.ref b from ry);obtain⟨z,hd,xs,rel,dd⟩:=Xe I.hok e;refine call_meetsIn PySem.F.slot_dict_get dd.typeIs PySem.F.entry_dict_get (PySem.F.args_dict_get_2 _ _) (meetsH_dict_get (tupleKind (mixKind X.prog X.w)) a b hd) ⟨tupleKind_room_in1 hu,k,xs,So I.hok eb,dd,h _ _ (I.tok _) ?_⟩;rw[l];exact(rel.val k).getD rfl
theorem tT{Q:Value->Shared->Prop}(hu:A.units+1<cLine)(I:Inv X Ac σ H s)(g:DGet H a y o)(ry:RelV y u)(rd:RelV d r)(h:∀w' s',Inv X Ac σ H s'->RelV (o.getD d) w'->Q w' s') :
 wpAny (model X.prog X.w) A (call (.builtin "dict.get") [.ref a,u,r]) Q E s:=by
 rcases g with⟨kvs,k,e,ey,l⟩|⟨kvs,k,b,e,ey,eb,l⟩
 . subst ey;obtain⟨z,hd,vs,rel,dd⟩:=J2 I.hok e;refine call_meetsIn PySem.F.slot_dict_get dd.typeIs PySem.F.entry_dict_get (PySem.F.args_dict_get_3 _ _ _) (meets_dict_get_default (mixKind X.prog X.w) a (kV_is ry) hd r) ⟨_,dd.mapOf,h _ _ (I.tok _) ?_⟩;rw[l];exact(rel.val k).getD rd
 . subst ey;cases (show u=Value.ref b from ry);obtain⟨z,hd,xs,rel,dd⟩:=Xe I.hok e;refine call_meetsIn PySem.F.slot_dict_get dd.typeIs PySem.F.entry_dict_get (PySem.F.args_dict_get_3 _ _ _) (meetsH_dict_get_default (tupleKind (mixKind X.prog X.w)) a b hd r) ⟨tupleKind_room_in1 hu,k,xs,So I.hok eb,dd,h _ _ (I.tok _) ?_⟩;rw[l];exact(rel.val k).getD rd
end
def tDGet1(td ty:TE):TE:=fun σ H Q=>td σ H fun x H1=>∃a,x=.ref a/\IsD H1 a/\ty σ H1 fun y H2=>∃o,DGet H2 a y o/\Q (o.getD .non) H2
def RK(td ty tx:TE):TE:=fun σ H Q=>td σ H fun x H1=>∃a,x=.ref a/\IsD H1 a/\ty σ H1 fun y H2=>tx σ H2 fun z H3=>∃o,DGet H3 a y o/\Q (o.getD z) H3
def RJ(td ty:TE):TE:=fun σ H Q=>td σ H fun x H1=>∃a,x=.ref a/\IsD H1 a/\ty σ H1 fun y H2=>∃kvs k v,H2 a=some (.dK kvs)/\y=kV k/\Ia kvs k=some v/\Q v (upd H2 a (.dK (Qv kvs k)))
def rJ(td ty tx:TE):TE:=fun σ H Q=>td σ H fun x H1=>∃a,x=.ref a/\IsD H1 a/\ty σ H1 fun y H2=>tx σ H2 fun z H3=>∃kvs k,H3 a=some (.dK kvs)/\y=kV k ∧
 (∀v,Ia kvs k=some v->Q v (upd H3 a (.dK (Qv kvs k))))/\(Ia kvs k=none->Q z H3)
section
variable{X:Cx}{o e f:Expr}{apos cpos:Pos}{td ty tx:TE}
theorem bP(hu:X.A.units+1<cLine)(ho:PE X o td)(he:PE X e ty)(m:M1 X o "get" apos e cpos):PE X (.Call (.Attribute o "get" apos) [e] [] cpos) (tDGet1 td ty):=by
 intro Ac s σ H Q I h;refine wpAny_Call_method m.base m.few m.line PySem.F.plainAttrs_dict PySem.F.slot_dict_get PySem.F.type_dict_get (Bu (ho Ac s σ H _ I h) fun u s1 ⟨x,H1,I1,rx,a,ex,d,q1⟩=>?_);subst ex;obtain rfl:u=Value.ref a:=rx;obtain⟨t1,t2,_⟩:=Ww I1 d;refine⟨t1,t2,?_⟩;rw[m.trees];refine Calls.callWith_builtin rfl (Calls.evalArgs_plain (Calls.spliced_cons (Bu (he Ac s1 σ H1 _ I1 q1) fun iv s2 ⟨y,H2,I2,ry,ov,g,q2⟩=>Calls.spliced_nil ?_)));exact tU hu I2 g ry fun w' s3 I3 rw'=>⟨_,H2,I3,rw',q2⟩
theorem BO(hu:X.A.units+1<cLine)(ho:PE X o td)(he:PE X e ty)(hf:PE X f tx)(m:M2 X o "get" apos e f cpos):PE X (.Call (.Attribute o "get" apos) [e,f] [] cpos) (RK td ty tx):=by
 intro Ac s σ H Q I h;refine wpAny_Call_method m.base m.few m.line PySem.F.plainAttrs_dict PySem.F.slot_dict_get PySem.F.type_dict_get (Bu (ho Ac s σ H _ I h) fun u s1 ⟨x,H1,I1,rx,a,ex,d,q1⟩=>?_);subst ex;obtain rfl:u=Value.ref a:=rx;obtain⟨t1,t2,_⟩:=Ww I1 d;refine⟨t1,t2,?_⟩;rw[m.trees]
 refine Calls.callWith_builtin rfl (Calls.evalArgs_plain (Calls.spliced_cons (Bu (he Ac s1 σ H1 _ I1 q1) fun iv s2 ⟨y,H2,I2,ry,q2⟩ =>
  Calls.spliced_cons (Bu (hf Ac s2 σ H2 _ I2 q2) fun fv s3 ⟨z,H3,I3,rz,ov,g,q3⟩=>Calls.spliced_nil ?_))))
 exact tT hu I3 g ry rz fun w' s4 I4 rw'=>⟨_,H3,I4,rw',q3⟩
theorem lO(ho:PE X o td)(he:PE X e ty)(m:M1 X o "pop" apos e cpos):PE X (.Call (.Attribute o "pop" apos) [e] [] cpos) (RJ td ty):=by
 intro Ac s σ H Q I h;refine wpAny_Call_method m.base m.few m.line PySem.F.plainAttrs_dict PySem.F.slot_dict_pop PySem.F.type_dict_pop (Bu (ho Ac s σ H _ I h) fun u s1 ⟨x,H1,I1,rx,a,ex,d,q1⟩=>?_);subst ex;obtain rfl:u=Value.ref a:=rx;obtain⟨t1,t2,_⟩:=Ww I1 d;refine⟨t1,t2,?_⟩;rw[m.trees];refine Calls.callWith_builtin rfl (Calls.evalArgs_plain (Calls.spliced_cons (Bu (he Ac s1 σ H1 _ I1 q1) fun iv s2 ⟨y,H2,I2,ry,kvs,k,v,ea,ey,l,q2⟩=>Calls.spliced_nil ?_)));subst ey;exact qY I2 ea ry l (.inl rfl) fun w' s3 I3 rw'=>⟨v,_,I3,rw',q2⟩
theorem LN(ho:PE X o td)(he:PE X e ty)(hf:PE X f tx)(m:M2 X o "pop" apos e f cpos):PE X (.Call (.Attribute o "pop" apos) [e,f] [] cpos) (rJ td ty tx):=by
 intro Ac s σ H Q I h;refine wpAny_Call_method m.base m.few m.line PySem.F.plainAttrs_dict PySem.F.slot_dict_pop PySem.F.type_dict_pop (Bu (ho Ac s σ H _ I h) fun u s1 ⟨x,H1,I1,rx,a,ex,d,q1⟩=>?_);subst ex;obtain rfl:u=Value.ref a:=rx;obtain⟨t1,t2,_⟩:=Ww I1 d;refine⟨t1,t2,?_⟩;rw[m.trees]
 refine Calls.callWith_builtin rfl (Calls.evalArgs_plain (Calls.spliced_cons (Bu (he Ac s1 σ H1 _ I1 q1) fun iv s2 ⟨y,H2,I2,ry,q2⟩ =>
  Calls.spliced_cons (Bu (hf Ac s2 σ H2 _ I2 q2) fun fv s3 ⟨z,H3,I3,rz,kvs,k,ea,ey,q3,q4⟩=>Calls.spliced_nil ?_))))
 subst ey;cases l:Ia kvs k with
 | some v=>exact qY I3 ea ry l (.inr ⟨fv,rfl⟩) fun w' s4 I4 rw'=>⟨v,_,I4,rw',q3 v l⟩
 | none=>exact tS I3 ea ry l fun s4 I4=>⟨z,H3,I4,rz,q4 l⟩
end
section
variable{X:Cx}{Ac:LAObj}{σ:St}{H:Hp}{s:Shared}{a:Addr}{kvs:List (Key × V)}{A:Around}{E:Value->Shared->Prop}
theorem nL{Q:Value->Shared->Prop}(I:Inv X Ac σ H s)(e:Rd H a (.dK kvs))(h:∀p s',H p=none->Inv X Ac σ (upd H p (.dK kvs)) s'->Q (.ref p) s'):wpAny (model X.prog X.w) A (call (.type "dict") [.ref a]) Q E s:=by
 obtain⟨z,hd,vs,rel,dd⟩:=J2 I.hok e;refine kt_call_dict hd dd (by rw[←rel.length];exact z) fun h' bB hs=>?_;refine h _ _ (I.hok.fresh (Nat.le_refl _)) (I.laid (a:=s.heap.objs.size) (o:=.dK kvs) (t':=s.toks) (fun b q hq=>?_) (Nat.le_refl _) (Pn z (beq_eq_false_iff_ne.mpr (Ne.symm (Nat.ne_of_lt I.big))) rel bB));exact(hs.2 b (Nat.ne_of_lt (Heap.lt_size hq))).trans (Heap.get?_push_of_some _ hq)
end
section
variable{X:Cx}{Ac:LAObj}{σ:St}{H:Hp}{s:Shared}{a:Addr}{y:V}{u:Value}{A:Around}{E:Value->Shared->Prop}
end
section
variable{X:Cx}
theorem Oa:Ei X (.builtin "len") (fun xs H Q=>∃a kvs,xs=[V.ref a]/\H a=some (.dK kvs)/\Q (.int kvs.length) H):=by
 intro Ac s σ H xs us Q I r h;obtain⟨a,kvs,rfl,ha,q⟩:=h;obtain⟨u,rfl,ru⟩:=Md r;cases ru;exact WR I (.inl ha) fun t s' I'=>⟨.int kvs.length,H,I',⟨t,rfl⟩,q⟩
end
def Pt(cells:List (Str × Addr)):List (Str × NameKind)->List (Str × Addr)->List (Str × Addr)
 | [],acc=>acc
 | (n,k)::r,acc=>Pt cells r (if (k==NameKind.free)=true then(n,(cells.lookup n).getD 0)::acc else acc)
theorem Pr{sc:Scope}{env:Env}(h:∀n,(n,NameKind.free)∈sc.names->∃c,env.cells.lookup n=some c):closureFor sc env=pure (Pt env.cells sc.names []):=by
 have all:∀(l:List (Str × NameKind)) (acc:List (Str × Addr)),(∀n,(n,NameKind.free)∈l->∃c,env.cells.lookup n=some c) →
  (forIn l acc fun(x:Str × NameKind) (cs:List (Str × Addr))=>match x with
    | (name,kind)=>if (kind==NameKind.free)=true then(do let c ←cellOf env name;pure (ForInStep.yield ((name,c)::cs))) else pure (ForInStep.yield cs))=(pure (Pt env.cells l acc):Sem _):=by
  intro l
  induction l with
  | nil=>intro acc _;rfl
  | cons x r ih =>
    intro acc hl;obtain⟨n,k⟩:=x;rw[List.forIn_cons];by_cases hk:(k==NameKind.free)=true
    . have hk':k=NameKind.free:=by simpa using hk
      subst hk';obtain⟨c,hc⟩:=hl n List.mem_cons_self;have e1:cellOf env n=pure c:=by unfold cellOf;rw[hc]
      simp only[beq_self_eq_true,if_true,e1,pure_bind];rw[ih _ fun m hm=>hl m (List.mem_cons_of_mem _ hm)];show _=(pure (Pt env.cells r (if (NameKind.free==NameKind.free)=true then(n,(env.cells.lookup n).getD 0)::acc else acc)):Sem _)
      rw[if_pos (by simp),hc];rfl
    . have hk2:(k==NameKind.free)=false:=by simpa using hk
      simp only[hk2,Bool.false_eq_true,if_false,pure_bind];rw[ih _ fun m hm=>hl m (List.mem_cons_of_mem _ hm)];show _=(pure (Pt env.cells r (if (k==NameKind.free)=true then(n,(env.cells.lookup n).getD 0)::acc else acc)):Sem _)
      rw[if_neg hk]
 have:=all sc.names [] h;unfold closureFor;dsimp only;rw[this,pure_bind]
theorem Cr{cells:List (Str × Addr)}{x:Str}{c:Addr}:∀{l:List (Str × NameKind)}{acc:List (Str × Addr)},(∀n,(n,NameKind.free)∈l->∃c,cells.lookup n=some c) →
 (acc.lookup x=some c->cells.lookup x=some c)->(Pt cells l acc).lookup x=some c->cells.lookup x=some c
 | [],_,_,ha,h=>ha h
 | (n,k)::r,acc,hl,ha,h=>by
   refine Cr (l:=r) (fun m hm=>hl m (List.mem_cons_of_mem _ hm)) ?_ h;by_cases hk:(k==NameKind.free)=true
   . rw[if_pos hk];have hk':k=NameKind.free:=by simpa using hk
     subst hk';obtain⟨d,hd⟩:=hl n List.mem_cons_self;intro e;rw[List.lookup_cons]at e;cases hx:x==n with
     | true =>
       rw[hx]at e;have hxn:x=n:=by simpa using hx
       subst hxn;rw[hd]at e ⊢;exact e
     | false=>rw[hx]at e;exact ha e
   . rw[if_neg hk];exact ha
theorem Nc{cells:List (Str × Addr)}{x:Str}:∀{l:List (Str × NameKind)}{acc:List (Str × Addr)},((x,NameKind.free)∈l\/∃c,acc.lookup x=some c)->∃c,(Pt cells l acc).lookup x=some c
 | [],_,h=>by
   rcases h with h | h
   . exact nomatch h
   . exact h
 | (n,k)::r,acc,h=>by
   refine Nc (l:=r) ?_;by_cases hk:(k==NameKind.free)=true
   . rw[if_pos hk];by_cases hx:(x==n)=true
     . exact .inr ⟨(cells.lookup n).getD 0,by rw[List.lookup_cons,hx]⟩
     . have OH:(x==n)=false:=by simpa using hx
       rcases h with h|⟨c,h⟩
       . rcases List.mem_cons.mp h with e | e
         . have e1:x=n:=congrArg Prod.fst e;exact absurd (by simp[e1]) hx
         . exact .inl e
       . exact .inr ⟨c,by rw[List.lookup_cons,OH];exact h⟩
   . rw[if_neg hk];rcases h with h | h
     . rcases List.mem_cons.mp h with e | e
       . have e2:NameKind.free=k:=congrArg Prod.snd e;exact absurd (by simp[←e2]) hk
       . exact .inl e
     . exact .inr h
def D6(X:Cx)(sc:Scope)(N':List Str)(C:Addr)(s₀:Shared)(H₀:Hp)(fp:List Addr):Cx where
 prog:=X.prog
 w:=X.w
 K:=X.K
 mg:=X.mg
 base:=X.base
 A:=X.A
 N:=N'
 s₀:=s₀
 H₀:=H₀
 env:=compEnvC sc (Pt X.env.cells sc.names []) C X.env
 outer:=X.stack
 stack:=X.stack
 ex:=fp
 fn:=fun _=>false
 calm:=X.calm
 pn:=[]
 xe:=fun _ _=>False
def Tf(cap:List (Option Nat))(σ:St):St:=cap.map fun o=>o.bind fun j=>(σ[j]?).join
structure T7(X:Cx)(sc:Scope)(N':List Str)(cap:List (Option Nat)):Prop where
 kind:sc.kind=.function
 len:cap.length=N'.length
 nocell:∀x∈sc.names,x.2≠NameKind.cell
 locals:∀x∈sc.names,x.2=NameKind.local->sc.names.lookup x.1=some NameKind.local
 free:∀n,(n,NameKind.free)∈sc.names->X.env.kindOf n=some .cell\/X.env.kindOf n=some .free
 slots:∀(i j:Nat) (x:Str),N'[i]?=some x->cap[i]?=some (some j)->X.N[j]?=some x/\((relabel sc X.env).names.lookup x=some .cell\/(relabel sc X.env).names.lookup x=some .free)/\UL X.env.scope x
section
variable{X:Cx}{sc:Scope}{N':List Str}{cap:List (Option Nat)}{Ac:LAObj}{σ:St}{H:Hp}{s:Shared}{C:Addr}{fp:List Addr}
theorem T7.cells(c:T7 X sc N' cap)(ok:X.Ok):∀n,(n,NameKind.free)∈sc.names->∃c,X.env.cells.lookup n=some c:=fun n hn=>ok.has n (c.free n hn)
theorem Ie{env:Env}{x:Str}{k:NameKind}(hnc:∀x∈sc.names,x.2≠NameKind.cell)(h:(relabel sc env).names.lookup x=some k)(hk:k=.cell\/k=.free):(x,NameKind.free)∈sc.names:=by
 have all:∀(l:List (Str × NameKind)),(∀x∈l,x.2≠NameKind.cell)->(l.map fun(n,k)=>if (k==NameKind.free&&env.scope.kind==.function&&env.kindOf n==some .cell) then(n,NameKind.cell) else(n,k)).lookup x=some k->(x,NameKind.free)∈l:=by
  intro l
  induction l with
  | nil=>intro _ h;exact nomatch h
  | cons p r ih =>
    intro hn h;obtain⟨n,q⟩:=p;rw[List.map_cons,List.lookup_cons]at h;by_cases hc:(q==NameKind.free&&env.scope.kind==.function&&env.kindOf n==some .cell)=true
    . have hq:q=NameKind.free:=by
       have:=hc;simp only[Bool.and_eq_true]at this;simpa using this.1.1
      simp only[hc,if_true]at h;cases hx:x==n with
      | true =>
        have e:x=n:=by simpa using hx
        rw[e,hq];exact List.mem_cons_self
      | false =>
        rw[hx]at h;exact List.mem_cons_of_mem _ (ih (fun y hy=>hn y (List.mem_cons_of_mem _ hy)) h)
    . simp only[hc]at h;cases hx:x==n with
      | true =>
        have e:x=n:=by simpa using hx
        simp only[Bool.false_eq_true,if_false,hx]at h;have e2:q=k:=by simpa using h
        rcases hk with z | z
        . exact absurd (e2.trans z) (hn (n,q) List.mem_cons_self)
        . rw[e,←z,←e2];exact List.mem_cons_self
      | false =>
        simp only[Bool.false_eq_true,if_false,hx]at h;exact List.mem_cons_of_mem _ (ih (fun y hy=>hn y (List.mem_cons_of_mem _ hy)) h)
 exact all sc.names hnc h
theorem QE(c:T7 X sc N' cap)(I:Inv X Ac σ H s)(hC:s.heap.objs.size<=C)(hf:∀b∈fp,Je X Ac H b)(hb:∀b∈fp,b<s.heap.objs.size):(D6 X sc N' C s H fp).Ok where
 mod:=I.ok.mod
 kind:=c.kind
 glob:=I.ok.glob
 blt:=I.ok.blt
 above:=hC
 inj:=fun x y a hx hy=>I.ok.inj x y a (Cr (c.cells I.ok) (fun z=>by simp at z) hx) (Cr (c.cells I.ok) (fun z=>by simp at z) hy)
 has:=fun x hx=>by
  refine Nc (.inl ?_);rcases hx with hx | hx
  . exact Ie c.nocell hx (.inl rfl)
  . exact Ie c.nocell hx (.inr rfl)
 cab:=fun _ _ h=>nomatch h
 hd:=I.ok.hd
 frames:=I.ok.frames
 stk:=.inl rfl
 exf:=fun b hb'=>⟨Nat.ne_of_lt (Nat.lt_of_lt_of_le (hb b hb') hC),fun x a e=>(hf b hb').2.2.2.2.1 x a (Cr (c.cells I.ok) (fun z=>by simp at z) e)⟩
 bs:=I.bs
 bsz:=Nat.le_trans I.ok.bsz I.sz
 noex:=fun b o e hb'=>by
  rcases (hf b hb').2.2.2.1 with z | z
  . exact I.ok.noex b o e z
  . exact absurd (Nat.lt_of_lt_of_le (Heap.lt_size e) (Nat.le_trans I.ok.bsz z)) (Nat.lt_irrefl _)
 exfs:=fun b hb' z=>by
  obtain⟨_,f1,f2,_⟩:=hf b hb';rcases List.mem_cons.mp (I.stkSub b z) with e | e
  . exact f1 e
  . exact f2 e
 funs:=I.stack
 frf:=I.stkFree
theorem NT(c:T7 X sc N' cap)(I:Inv X Ac σ H s){D:Addr}{h1:Heap}{t:Nat}(hC:C=s.heap.objs.size+1)(hD:D=s.heap.objs.size)(hf:∀b∈fp,Je X Ac H b)(hb:∀b∈fp,b<s.heap.objs.size)
 (hn:h1.Ns C fun _=>none) (hl:h1.get? D=some { cls:=.type "list",data:=.seq #[] 0 }) (k:∀b o,s.heap.get? b=some o->h1.get? b=some o) :
 Inv (D6 X sc N' C s H fp) [] (Tf cap σ) (upd H D (.lst [])) { s with heap:=h1,toks:=t }:=by
 have WH:s.heap.objs.size<=C:=by rw[hC];exact Nat.le_succ _
 have ZW:C≠D:=by rw[hC,hD];exact Nat.succ_ne_self _
 have ok:=QE (C:=C) (fp:=fp) c I WH hf hb;have ZU:H D=none:=by rw[hD];exact I.fresh
 have GD:∀x a,(Pt X.env.cells sc.names []).lookup x=some a->X.env.cells.lookup x=some a:=fun x a e=>Cr (c.cells I.ok) (fun z=>by simp at z) e;have WT:∀a v,s.heap.IsCell a v->h1.IsCell a v:=fun a v ⟨o,ho,hd⟩=>⟨o,k a o ho,hd⟩
 have YZ:∀a v,s.heap.IsCell a v->a≠D:=fun a v ⟨o,ho,hd⟩=>by rw[hD];exact Nat.ne_of_lt (Heap.lt_size ho)
 refine⟨ok,rfl,I.bare,Un.laid k (by rw[hD];exact Nat.le_refl _) ZU,⟨_,hn,fun i x v e1 e2 e3=>?_⟩,fun x a e=>?_,?_,fun x a e=>?_,fun p hp=>absurd hp (by simp[D6]),?_,?_⟩
 . have ND:cap[i]?.map (fun o=>o.bind fun j=>(σ[j]?).join)=some (some v):=by
    have:=e2;unfold Tf at this;rw[List.getElem?_map]at this;exact this
   cases hc:cap[i]? with
   | none=>rw[hc]at ND;cases ND
   | some o =>
     rw[hc]at ND;cases o with
     | none=>cases ND
     | some j =>
       have e4:(σ[j]?).join=some v:=by simpa using ND
       obtain⟨q1,vD,q3⟩:=c.slots i j x e1 hc;have q2:(x,NameKind.free)∈sc.names:=vD.elim (fun z=>Ie c.nocell z (.inl rfl)) fun z=>Ie c.nocell z (.inr rfl);obtain⟨m,hm,hl'⟩:=I.loc
       have e5:σ[j]?=some (some v):=by
        cases z:σ[j]? with
        | none=>rw[z]at e4;cases e4
        | some y=>rw[z]at e4;cases y with
          | none=>cases e4
          | some y'=>cases e4;rfl
       obtain⟨u,r,l⟩:=hl' j x v q1 e5 q3;refine⟨u,r,?_⟩;obtain⟨a,ha⟩:=Nc (cells:=X.env.cells) (l:=sc.names) (acc:=[]) (x:=x) (.inl q2);have kd:X.env.kindOf x=some .cell\/X.env.kindOf x=some .free:=c.free x q2;rcases l with⟨hk,_⟩|⟨hk,a',ha',hcell⟩
       . rcases kd with z | z<;>rw[z]at hk<;>cases hk
       . have e6:a'=a:=by
          have:=GD x a ha;rw[ha']at this;exact Option.some.inj this
         refine .inr ⟨vD,a,ha,?_⟩;rw[←e6];exact WT _ _ hcell
 . obtain⟨v,z⟩:=I.cell x a (GD x a e);exact⟨v,WT a v z⟩
 . show upd H D (.lst []) C=none;rw[Ae ZW];exact I.hok.fresh WH
 . show upd H D (.lst []) a=none;obtain⟨v,z⟩:=I.cell x a (GD x a e);rw[Ae (YZ a v z)];exact I.freeC x a (GD x a e)
 . exact I.hok.laid k (by rw[hD];exact Nat.le_refl _) ⟨Nat.zero_le _,[],0,.nil,hl⟩
 . show(Tf cap σ).length=N'.length;unfold Tf;rw[List.length_map,c.len]
end
def qF(x6:Scope)(N:List Str)(sc:Scope)(N':List Str)(cap:List (Option Nat)):Bool :=
 decide (sc.kind=.function)&&decide (cap.length=N'.length)&&sc.names.all (fun x=>decide (x.2≠NameKind.cell))&&sc.names.all (fun x=>decide (x.2=NameKind.local->sc.names.lookup x.1=some NameKind.local)) &&
 sc.names.all (fun x=>decide (x.2=NameKind.free->(x6.names.lookup x.1=some .cell\/x6.names.lookup x.1=some .free))) &&
 (N'.zip cap).all (fun p=>match p.2 with
   | none=>true
   | some j=>decide (N[j]?=some p.1)&&decide (((sc.names.map fun(n,k)=>if (k==.free&&x6.kind==.function&&x6.names.lookup n==some .cell) then(n,NameKind.cell) else(n,k)).lookup p.1=some .cell) ∨
      ((sc.names.map fun(n,k)=>if (k==.free&&x6.kind==.function&&x6.names.lookup n==some .cell) then(n,NameKind.cell) else(n,k)).lookup p.1=some .free)) &&
     decide (x6.names.lookup p.1=some .local\/x6.names.lookup p.1=some .cell\/x6.names.lookup p.1=some .free))
theorem GO{X:Cx}{sc:Scope}{N':List Str}{cap:List (Option Nat)}(h:qF X.env.scope X.N sc N' cap=true):T7 X sc N' cap:=by
 unfold qF at h;rw[Bool.and_eq_true,Bool.and_eq_true,Bool.and_eq_true,Bool.and_eq_true,Bool.and_eq_true,List.all_eq_true,List.all_eq_true,List.all_eq_true,List.all_eq_true]at h;obtain⟨⟨⟨⟨⟨h1,h2⟩,h3⟩,h4⟩,h5⟩,h6⟩:=h;refine⟨of_decide_eq_true h1,of_decide_eq_true h2,fun x hx=>of_decide_eq_true (h3 x hx),fun x hx=>of_decide_eq_true (h4 x hx),fun n hn=>of_decide_eq_true (h5 _ hn) rfl,fun i j x e1 e2=>?_⟩
 have hm:(x,some j)∈N'.zip cap:=by
  have e:(N'.zip cap)[i]?=some (x,some j):=by
   rw[List.getElem?_zip_eq_some];exact⟨e1,e2⟩
  exact List.mem_of_getElem? e
 have h7:=h6 _ hm;dsimp only at h7;rw[Bool.and_eq_true,Bool.and_eq_true]at h7;obtain⟨⟨h8,h9⟩,h10⟩:=h7;exact⟨of_decide_eq_true h8,of_decide_eq_true (p:=(relabel sc X.env).names.lookup x=some .cell\/(relabel sc X.env).names.lookup x=some .free) h9,of_decide_eq_true (p:=X.env.scope.names.lookup x=some .local\/X.env.scope.names.lookup x=some .cell\/X.env.scope.names.lookup x=some .free) h10⟩
def RA(X:Cx)(ifs:List Expr)(t:TT):Prop :=
 ∀(Ac:LAObj) (s:Shared) (σ:St) (H:Hp) (Q:Bool->Hp->Prop),Inv X Ac σ H s->t σ H Q →
   wpAny (model X.prog X.w) X.A (forIn ifs true fun c r=>if r=true then do let ok ←isTrue c X.env (eval c X.env);pure (ForInStep.yield ok) else pure (ForInStep.yield r)) (TP X Ac σ Q) X.xe s
def kP:TT:=fun _ H Q=>Q true H
theorem Ih{X:Cx}:RA X [] kP:=fun _ _ _ H _ I h=>wpAny_tests_nil ⟨H,I,h⟩
theorem Fp{X:Cx}{c:Expr}{t:TT}(h:PT X c t):RA X [c] t:=fun Ac s σ H Q I hw=>wpAny_tests_one (h Ac s σ H Q I hw)
def Qz(J:It)(g:TG)(tc:TT)(te:TE)(D:Addr)(Q:Hp->Prop)(τ:St)(H:Hp):Prop :=
 ∃W:Nat->Nat->List V->St->Hp->Prop,(∃m,W 0 m [] τ H)/\∀i m ys τ H,W i m ys τ H →
   (J.stop i H/\Q H) ∨
   (J.go i H/\∃N:List V->St->Hp->Prop,(∀ys' τ' H',N ys' τ' H'->∃m',m'<m/\W (i+1) m' ys' τ' H') ∧
     ∀x H',J.yld i H x H'->g x τ H' fun τ2 H2=>tc τ2 H2 fun b H3=>if b=true then te τ2 H3 fun y H4=>H4 D=some (.lst ys)/\ys.length<sizeLine/\N (ys++[y]) τ2 (upd H4 D (.lst (ys++[y]))) else N ys τ2 H3)
section
variable{X:Cx}{sc:Scope}{N':List Str}{cap:List (Option Nat)}{tg elt iter:Expr}{ifs:List Expr}{pos:Pos}{g:TG}{tc:TT}{te:TE}
theorem g8{Y:Cx}{J:It}{fp:List Addr}{it D:Addr}{tn:Nat->Heap->Prop}{R:Result->Shared->Prop}{Q:Hp->Prop}{τ:St}{H:Hp}{s:Shared}
 (hx:Y.xe=fun _ _=>False) (hc:Y.calm=true) (hg:PG Y tg g) (ht:RA Y ifs tc) (he:PE Y elt te) (T:Uy Y.prog Y.w Y.K tg J fp it tn) (st:tn 0 s.heap) (hf:∀b∈fp,Je Y [] H b) (I:Inv Y [] τ H s)
 (h:Qz J g tc te D Q τ H) (hR:∀τ' H' s',Inv Y [] τ' H' s'->Q H'->R (.ok .next) s') :
 codeAny (model Y.prog Y.w) Y.A (.compLoop (.ListComp elt [⟨tg,iter,ifs,0⟩] sc pos) 0 (.ref it) (.ref D) Y.env) R s:=by
 obtain⟨W,⟨m0,w0⟩,turn⟩:=h;have DK:∀{H':Hp},(∀b∈fp,H' b=none)->∀b∈fp,Je Y [] H' b:=fun hn b hb=>⟨hn b hb,(hf b hb).2⟩
 have no:∀{P:Prop}{e:Value}{s':Shared},Y.xe e s'->P:=fun z=>by rw[hx]at z;exact z.elim
 refine codeAny_loop rfl (fun n s'=>∃i ys τ' H',Inv Y [] τ' H' s'/\tn i s'.heap/\(∀b∈fp,H' b=none)/\W i n ys τ' H') ?_ m0 ⟨0,[],τ,H,I,st,fun b hb=>(hf b hb).1,w0⟩;rintro n s3 ⟨i,ys,τ3,H3,I3,st3,TN,w3⟩;show wpAny _ Y.A ((compTurn (.ListComp elt [⟨tg,iter,ifs,0⟩] sc pos) 0 (.ref it) (.ref D) Y.env).onRaise (fun x=>do noteFrame x Y.env;theTreesLotGoes x)) _ _ s3;refine wpAny_noted ?_;rw[compTurn_list];refine wpAny_bind (wpAny_standAt (wpAny_bind ?_));rcases turn i n ys τ3 H3 w3 with⟨stop,qn⟩|⟨go,N,hN,step⟩
 . refine wpAny_mono (T.done Y rfl rfl rfl hc i [] s3 τ3 H3 (fun _ _=>False) I3 (DK TN) st3 stop) (fun r s4 ⟨hr,I4⟩=>?_) fun _ _ z=>z.elim;subst hr;exact wpAny_pure (hR _ _ _ I4 qn)
 . refine wpAny_mono (T.item Y rfl rfl rfl hc i [] s3 τ3 H3 (fun _ _=>False) I3 (DK TN) st3 go) (fun r s4 ⟨u,hr,h4⟩=>?_) fun _ _ z=>z.elim;subst hr;refine wpAny_bind (wpAny_mono h4 (fun _ s5 ⟨x,H5,I5,r5,y5,rM,fr5⟩=>?_) fun _ _ z=>z.elim);have I5':=I5.pinned (DK fr5) (T.obj _ _ rM)
   have again:∀{τ7:St}{H7:Hp}{XA:List V}{s7:Shared},Inv Y ([]++Vz fp s5.heap) τ7 H7 s7->N XA τ7 H7->∃m,m<n/\∃i ys τ' H',Inv Y [] τ' H' s7/\tn i s7.heap/\(∀b∈fp,H' b=none)/\W i m ys τ' H':=fun {τ7 H7 XA s7} I7 n7=>by
    obtain⟨m',hm,w7⟩:=hN XA τ7 H7 n7;refine⟨m',hm,i+1,XA,τ7,H7,I7.unpinned,T.keep _ _ _ rM fun b hb o e=>(I7.pin (b,o) (List.mem_append_right _ (List.mem_append_right _ (Ks hb e)))).1,fun b hb=>?_,w7⟩;obtain⟨o,e,d⟩:=T.obj _ _ rM b hb;exact(I7.pin (b,o) (List.mem_append_right _ (List.mem_append_right _ (Ks hb e)))).2.1
   refine wpAny_bind (wpAny_mono (hg _ s5 τ3 H5 x u _ I5' r5 (step x H5 y5)) (fun _ s6 ⟨τ6,H6,I6,q6⟩=>?_) fun _ _ z=>no z);refine wpAny_bind (wpAny_mono (ht _ s6 τ6 H6 _ I6 q6) (fun ok s7 ⟨H7,I7,q7⟩=>?_) fun _ _ z=>no z);cases ok with
   | false =>
     have q8:N ys τ6 H7:=by simpa using q7
     exact wpAny_pure ⟨rfl,again I7 q8⟩
   | true =>
     have q8:te τ6 H7 fun y H4=>H4 D=some (.lst ys)/\ys.length<sizeLine/\N (ys++[y]) τ6 (upd H4 D (.lst (ys++[y]))):=by simpa using q7
     refine wpAny_bind (wpAny_bind (wpAny_mono (he _ s7 τ6 H7 _ I7 q8) (fun y s8 ⟨v8,H8,I8,r8,hD,hl,n8⟩=>?_) fun _ _ z=>no z));refine wpAny_bind (wpAny_mono (Fh _ s8 τ6 H8 (.ref D) [v8] (.ref D) [y] (fun _ H9=>N (ys++[v8]) τ6 H9) I8 rfl (.cons r8 .nil) ⟨D,ys,v8,rfl,rfl,hD,hl,n8⟩) (fun _ s9 ⟨_,H9,I9,_,n9⟩=>?_) fun _ _ z=>no z);exact wpAny_pure (wpAny_pure ⟨rfl,again I9 n9⟩)
theorem Xo{Ac:LAObj}{σ:St}{H:Hp}{s:Shared}{J:It}{fp:List Addr}{it:Addr}{tn:Nat->Heap->Prop}{RR:Value->Addr->Result->Shared->Prop}{Q:Addr->Hp->Prop}{E:Value->Shared->Prop}
 (c:T7 X sc N' cap) (hc:X.calm=true) (hg:∀C s₀ H₀ fp,PG (D6 X sc N' C s₀ H₀ fp) tg g) (ht:∀C s₀ H₀ fp,RA (D6 X sc N' C s₀ H₀ fp) ifs tc) (he:∀C s₀ H₀ fp,PE (D6 X sc N' C s₀ H₀ fp) elt te)
 (I:Inv X Ac σ H s) (T:Uy X.prog X.w X.K tg J fp it tn) (st:tn 0 s.heap) (hf:∀b∈fp,Je X Ac H b)
 (h:∀D,H D=none->Qz J g tc te D (Q D) (Tf cap σ) (upd H D (.lst [])))
 (hR:∀D C s' H' m',H D=none->s.heap.objs.size<=C->s'.os=s.os->AllBare s'.gens->Un (frs X.stack) fp H H' s.heap s'.heap->L4 X.prog X.w H' s'.heap->s'.heap.Ns C m'->H' C=none->C ∉ fp->Q D H'->RR (.ref D) C (.ok .next) s') :
 wpAny (model X.prog X.w) X.A (newList []) (fun acc s₃=>wpAny (model X.prog X.w) X.A (newFunctionEnv sc X.env.globals (Pt X.env.cells sc.names []) [] X.env.qual none .none (some X.env)) (fun cenv s₄ =>
  codeAny (model X.prog X.w) X.A (.compStart (.ListComp elt [⟨tg,iter,ifs,0⟩] sc pos) 0 (.ref it) acc { cenv with scope:=relabel sc X.env }) (RR acc cenv.locals) s₄) E s₃) E s:=by
 have hb:∀b∈fp,b<s.heap.objs.size:=fun b hb=>by
  obtain⟨o,e,_⟩:=T.obj _ _ st b hb;exact Heap.lt_size e
 refine wpAny_newObj_type (wpAny_newFunctionEnv c.nocell (by intro y hy;simp at hy) (fun h₁ eX pV=>?_) c.kind);dsimp only at eX pV ⊢;generalize TL:s.heap.push { cls:=.type "list",dict:=none,data:=.seq ([]:List Value).toArray }=H2 at eX pV ⊢;have hC:H2.objs.size=s.heap.objs.size+1:=by rw[←TL,Heap.size_push]
 have PY:s.heap.objs.size<=H2.objs.size:=by rw[hC];exact Nat.le_succ _
 have uJ:s.heap.objs.size≠H2.objs.size:=by rw[hC];exact(Nat.succ_ne_self _).symm
 have old:∀b o,s.heap.get? b=some o->h₁.get? b=some o:=fun b o e=>by
  have l1:=Heap.lt_size e;exact pV.extBut b o (Nat.ne_of_lt (Nat.lt_of_lt_of_le l1 PY)) (Heap.get?_push_of_some _ (TL▸Heap.get?_push_of_some _ e))
 have hl:h₁.get? s.heap.objs.size=some { cls:=.type "list",data:=.seq #[] 0 }:=pV.extBut _ _ uJ (Heap.get?_push_of_some _ (TL▸Heap.get?_push_size _ rfl));have zJ:h₁.Ns H2.objs.size fun _=>none:=by simpa using eX
 have I4:Inv (D6 X sc N' H2.objs.size s H fp) [] (Tf cap σ) (upd H s.heap.objs.size (.lst [])) { s with heap:=h₁,toks:=s.toks+([]:List (Str × Value)).length }:=NT c I hC rfl hf hb zJ hl old;have hfr:H s.heap.objs.size=none:=I.fresh
 have f4:∀b∈fp,Je (D6 X sc N' H2.objs.size s H fp) [] (upd H s.heap.objs.size (.lst [])) b:=fun b hb'=>by
  obtain⟨f0,f1,f2,f3,f4,f5⟩:=hf b hb';have lb:=hb b hb';refine⟨by rw[Ae (Nat.ne_of_lt lb)];exact f0,(Nat.ne_of_lt (Nat.lt_of_lt_of_le lb PY):b≠H2.objs.size),fun z=>?_,.inl hb',fun x a e=>f4 x a (Cr (c.cells I.ok) (fun z=>by simp at z) e),fun p hp=>absurd hp (by simp[D6])⟩;rcases List.mem_cons.mp (I.stkSub b z) with e | e
  . exact f1 e
  . exact f2 e
 have uW:tn 0 h₁:=T.keep _ _ _ st fun b _ o e=>old b o e
 have loop:∀s₅:Shared,s₅={ s with heap:=h₁,toks:=s.toks+([]:List (Str × Value)).length } →
  codeAny (model X.prog X.w) X.A (.compLoop (.ListComp elt [⟨tg,iter,ifs,0⟩] sc pos) 0 (.ref it) (.ref s.heap.objs.size) (D6 X sc N' H2.objs.size s H fp).env) (RR (.ref s.heap.objs.size) H2.objs.size) s₅:=by
  rintro s₅ rfl;refine g8 (Y:=D6 X sc N' H2.objs.size s H fp) (J:=J) (fp:=fp) (tn:=tn) (Q:=Q s.heap.objs.size) rfl hc (hg _ _ _ _) (ht _ _ _ _) (he _ _ _ _) T uW f4 I4 (h _ hfr) fun τ' H' s' I' q'=>?_;obtain⟨m',hn',_⟩:=I'.loc;exact hR _ _ s' H' m' hfr PY I'.os I'.bare I'.base I'.hok hn' I'.free (fun z=>absurd (Nat.lt_of_lt_of_le (hb _ z) PY) (Nat.lt_irrefl _)) q'
 exact codeAny_compStart_list (loop _ rfl) (T.self _ 0 _ _ _ uW (loop _ rfl))
def kQ(wi:TI)(cap:List (Option Nat))(g:TG)(tc:TT)(te:TE):TE:=fun σ H Q=>wi σ H fun J H1=>∀D,H1 D=none->Qz J g tc te D (fun H'=>Q (.ref D) H') (Tf cap σ) (upd H1 D (.lst []))
theorem Inv.fpCh{Ac:LAObj}{H:Hp}{fp:List Addr}(hf:∀b∈fp,Je X Ac H b):∀b∈fp,(b∈X.ex\/X.s₀.heap.objs.size<=b)/\b≠X.env.locals/\(∀x c,X.env.cells.lookup x=some c->c≠b)/\∀p∈X.pn++Ac,p.1≠b :=
 fun b hb=>let ⟨_,f1,_,f3,f4,f5⟩:=hf b hb;⟨f3,f1,f4,f5⟩
theorem Eb{wi:TI}(hc:X.calm=true)(hcap:qF X.env.scope X.N sc N' cap=true)(hi:PI X tg iter wi)(hg:∀C s₀ H₀ fp,PG (D6 X sc N' C s₀ H₀ fp) tg g)(ht:∀C s₀ H₀ fp,RA (D6 X sc N' C s₀ H₀ fp) ifs tc)
 (he:∀C s₀ H₀ fp,PE (D6 X sc N' C s₀ H₀ fp) elt te) (hs:∀x,foldedSetIterable iter X.env x=pure x:=by intro _;rfl):PE X (.ListComp elt [⟨tg,iter,ifs,0⟩] sc pos) (kQ wi cap g tc te):=by
 intro Ac s σ H Q I h;have c:T7 X sc N' cap:=GO hcap;rw[eval_ListComp];refine wpAny_comprehension_free (use:=none) rfl hs (Pr (c.cells I.ok)) c.kind c.locals (Bu (hi Ac s σ H _ I h) fun v s1 h1=>Bu h1 fun itv s2 h2=>?_);obtain⟨it,fp,tn,J,H2,e,I2,T,st2,f2,hW⟩:=h2;subst e;refine Xo (RR:=fun acc C=>compPost (model X.prog X.w) X.A X.xe none (EP X Ac σ Q) acc C) (Q:=fun D H'=>Q (.ref D) H') c hc hg ht he I2 T st2 f2 hW ?_;intro D C s' H' m' hD hC hos hbare hun hok hn QU hCf q;refine⟨m',hn,fun h' Ka=>?_⟩;have I3:Inv X Ac σ H' s':=I2.call' hos hun hok hbare (Inv.fpCh f2);have f3:Je X Ac H' C:=I2.fpOk hC QU;obtain⟨_,k1,_,k3,k4,k5⟩:=f3;have I4:Inv X Ac σ H' { s' with heap:=h' }:=I3.turned (t':=s'.toks) (fun b o hb e=>(Ka.2 b hb).trans e) QU k1 k3 k4 k5;exact⟨.ref D,H',I4,rfl,q⟩
theorem U1{wi:TI}{i:Nat}{x:Str}{px spos:Pos}(hN:X.N.Nodup)(hi':X.N[i]?=some x)(hx:qH X.env.scope x)(hc:X.calm=true)(hcap:qF X.env.scope X.N sc N' cap=true)(hi:PI X tg iter wi)
 (hg:∀C s₀ H₀ fp,PG (D6 X sc N' C s₀ H₀ fp) tg g) (ht:∀C s₀ H₀ fp,RA (D6 X sc N' C s₀ H₀ fp) ifs tc) (he:∀C s₀ H₀ fp,PE (D6 X sc N' C s₀ H₀ fp) elt te)
 (hsw:swapsWith (.ListComp elt [⟨tg,iter,ifs,0⟩] sc pos) (some (.Name x px)) spos.line X.env=pure true:=by rfl)
 (hs:∀x,foldedSetIterable iter X.env x=pure x:=by intro _;rfl) (hf:X.fn x=true\/X.env.scope.names.lookup x=some .local:=by first | exact .inl rfl | exact .inr rfl | assumption) :
 PS X (.Assign [.Name x px] (.ListComp elt [⟨tg,iter,ifs,0⟩] sc pos) spos) (KQ (kQ wi cap g tc te) (Tq i)):=by
 intro Ac s σ H D I h;have c:T7 X sc N' cap:=GO hcap;rw[exec_Assign_Name_used _ _ _ _ hsw];refine wpAny_bind (wpAny_standAt (wpAny_bind ?_));show wpAny _ X.A (do let _ ←comprehension (.ListComp elt [⟨tg,iter,ifs,0⟩] sc pos) sc X.env _ (newList []) false (eval iter X.env) (some (assign (.Name x px) X.env))) _ _ s
 refine wpAny_bind (Bu (wpAny_comprehension_free (use:=some (assign (.Name x px) X.env)) (Q:=fun _ s'=>SP X Ac D .next s') rfl hs (Pr (c.cells I.ok)) c.kind c.locals
  (Bu (hi Ac s σ H _ I h) fun v s1 h1=>Bu h1 fun itv s2 h2=>?_)) fun _ s' hq=>wpAny_pure (wpAny_pure hq))
 obtain⟨it,fp,tn,J,H2,e,I2,T,st2,f2,hW⟩:=h2;subst e;refine Xo (RR:=fun acc C=>compPost (model X.prog X.w) X.A X.xe (some (assign (.Name x px) X.env)) (fun _ s'=>SP X Ac D .next s') acc C) (Q:=fun A H'=>Tq i (.ref A) σ H' D.nx) c hc hg ht he I2 T st2 f2 hW ?_;intro A C s' H' m' hD hC hos hbare hun hok hn QU hCf q;have I3:Inv X Ac σ H' s':=I2.call' hos hun hok hbare (Inv.fpCh f2);have f3:Je X Ac H' C:=I2.fpOk hC QU;obtain⟨_,k1,_,k3,k4,k5⟩:=f3;show wpAny _ X.A (assign (.Name x px) X.env (.ref A)) _ _ s';refine wpAny_assign_Name (Rh I3 hN hi' hx (v:=.ref A) rfl (fun s'' I'' ⟨a,Ka,ha⟩=>?_) hf)
 have ZV:C≠a:=by
  rcases ha with z | z
  . rw[z];exact k1
  . exact fun z'=>k4 x a z z'.symm
 refine⟨m',hn.sameBut Ka ZV,fun h' SX=>?_⟩;have I4:Inv X Ac (σ.set i (some (.ref A))) H' { s'' with heap:=h' }:=I''.turned (t':=s''.toks) (fun b o hb e=>(SX.2 b hb).trans e) QU k1 k3 k4 k5;exact⟨_,H',I4,q⟩
end
section
variable{g:TG}{tc:TT}{te:TE}{D:Addr}{Q:Hp->Prop}{τ:St}{H:Hp}
theorem N8{K:W.Frag}{a:Addr}{xs:List V}(Pv:Nat->List V->St->Hp->Prop)(h0:Pv 0 [] τ H)(hl:∀i ys τ H,i<=xs.length->Pv i ys τ H->SqL K H a xs)
 (hs:∀i x ys τ H,xs[i]?=some x->Pv i ys τ H->g x τ H fun τ2 H2=>tc τ2 H2 fun b H3=>if b=true then te τ2 H3 fun y H4=>H4 D=some (.lst ys)/\ys.length<sizeLine/\Pv (i+1) (ys++[y]) τ2 (upd H4 D (.lst (ys++[y]))) else Pv (i+1) ys τ2 H3)
 (hd:∀ys τ H,Pv xs.length ys τ H->Q H):Qz (uB K a) g tc te D Q τ H:=by
 refine⟨fun i m ys τ H=>m=xs.length-i/\i<=xs.length/\Pv i ys τ H,⟨xs.length,by simp,Nat.zero_le _,h0⟩,?_⟩;rintro i m ys τ H ⟨rfl,hi,p⟩;have q:=hl i ys τ H hi p;by_cases hlt:i<xs.length
 . refine .inr ⟨⟨xs,xs[i],q,by simp[hlt]⟩,Pv (i+1),fun ys' τ' H' p'=>⟨xs.length-(i+1),by omega,rfl,hlt,p'⟩,fun x H' y=>?_⟩;obtain⟨e,y⟩:=y;subst e;exact hs i x ys τ _ (y xs q) p
 . have e:i=xs.length:=by omega
   subst e;exact .inl ⟨⟨xs,q,Nat.le_refl _⟩,hd ys τ H p⟩
theorem NS{K:W.Frag}{a:Addr}{xs:List V}(Pv:Nat->List V->St->Hp->Prop)(h0:Pv 0 [] τ H)(hl:∀i ys τ H,i<=xs.length->Pv i ys τ H->Dw K H a xs)
 (hs:∀i x ys τ H,xs[i]?=some x->Pv i ys τ H->g x τ H fun τ2 H2=>tc τ2 H2 fun b H3=>if b=true then te τ2 H3 fun y H4=>H4 D=some (.lst ys)/\ys.length<sizeLine/\Pv (i+1) (ys++[y]) τ2 (upd H4 D (.lst (ys++[y]))) else Pv (i+1) ys τ2 H3)
 (hd:∀ys τ H,Pv xs.length ys τ H->Q H):Qz (uA K a) g tc te D Q τ H:=by
 refine⟨fun i m ys τ H=>m=xs.length-i/\i<=xs.length/\Pv i ys τ H,⟨xs.length,by simp,Nat.zero_le _,h0⟩,?_⟩;rintro i m ys τ H ⟨rfl,hi,p⟩;have q:=hl i ys τ H hi p;by_cases hlt:i<xs.length
 . refine .inr ⟨⟨xs,xs[i],q,by simp[hlt]⟩,Pv (i+1),fun ys' τ' H' p'=>⟨xs.length-(i+1),by omega,rfl,hlt,p'⟩,fun x H' y=>?_⟩;obtain⟨e,y⟩:=y;subst e;exact hs i x ys τ _ (y xs q) p
 . have e:i=xs.length:=by omega
   subst e;exact .inl ⟨⟨xs,q,Nat.le_refl _⟩,hd ys τ H p⟩
theorem Hs{lo:Int}{n:Nat}(Pv:Nat->List V->St->Hp->Prop)(h0:Pv 0 [] τ H)
 (hs:∀i ys τ H,i<n->Pv i ys τ H->g (.int (lo+i)) τ H fun τ2 H2=>tc τ2 H2 fun b H3=>if b=true then te τ2 H3 fun y H4=>H4 D=some (.lst ys)/\ys.length<sizeLine/\Pv (i+1) (ys++[y]) τ2 (upd H4 D (.lst (ys++[y]))) else Pv (i+1) ys τ2 H3)
 (hd:∀ys τ H,Pv n ys τ H->Q H):Qz (QH lo n) g tc te D Q τ H:=by
 refine⟨fun i m ys τ H=>m=n-i/\i<=n/\Pv i ys τ H,⟨n,by simp,Nat.zero_le _,h0⟩,?_⟩;rintro i m ys τ H ⟨rfl,hi,p⟩;by_cases hlt:i<n
 . refine .inr ⟨hlt,Pv (i+1),fun ys' τ' H' p'=>⟨n-(i+1),by omega,rfl,hlt,p'⟩,fun x H' y=>?_⟩;obtain⟨e,y⟩:=y;subst e y;exact hs i ys τ _ hlt p
 . have e:i=n:=by omega
   subst e;exact .inl ⟨Nat.le_refl _,hd ys τ H p⟩
end
end L2
namespace L2
open PySem PySem.Spec PyProof.Rows PySem.SeqAt
def cK(ms:List (Int × Int)):List (Key × V):=ms.map fun p=>(Sum.inl p.1,V.int p.2)
def lookI(ms:List (Int × Int))(k:Int):Option Int:=(ms.find? fun p=>decide (p.1=k)).map (·.2)
inductive L3:List DictEntry->List (Int × Int)->Prop
 | nil:L3 [] []
 | cons {e:DictEntry}{k v:Int}{es:List DictEntry}{ms:List (Int × Int)}{t t':Tok}:e.key=.int k t->e.hash=hashInt k->e.val=.int v t'->L3 es ms->L3 (e::es) ((k,v)::ms)
theorem L3.length{es:List DictEntry}{ms:List (Int × Int)}(h:L3 es ms):es.length=ms.length:=by
 induction h with
 | nil=>rfl
 | cons _ _ _ _ ih=>simp[ih]
theorem L3.get{es:List DictEntry}{ms:List (Int × Int)}(h:L3 es ms):∀{i:Nat}{e:DictEntry},es[i]?=some e->∃k v t t',ms[i]?=some (k,v)/\e.key=.int k t/\e.hash=hashInt k/\e.val=.int v t':=by
 induction h with
 | nil=>intro i e q;simp at q
 | @cons e0 k v es ms t t' h1 h2 h3 _ ih =>
   intro i e q;cases i with
   | zero =>
     have:e0=e:=by simpa using q
     subst this;exact⟨k,v,t,t',by simp,h1,h2,h3⟩
   | succ i =>
     obtain⟨k',v',t1,t2,q1,q2⟩:=ih (i:=i) (e:=e) (by simpa using q);exact⟨k',v',t1,t2,by simpa using q1,q2⟩
theorem L3.find{es:List DictEntry}{ms:List (Int × Int)}(h:L3 es ms)(k:Int):es.findIdx? (fun e=>Value.isInt k e.key)=ms.findIdx? fun p=>decide (p.1=k):=by
 induction h with
 | nil=>rfl
 | @cons e0 k0 v es ms t t' h1 h2 h3 _ ih =>
   rw[List.findIdx?_cons,List.findIdx?_cons,h1,ih]
   have e:Value.isInt k (.int k0 t)=decide (k0=k):=by
    by_cases q:k0=k
    . subst q;simp[Value.isInt]
    . simp[Value.isInt,q];try exact fun z=>q z.symm
   rw[e]
structure Q0(h:Heap)(a:Addr)(ms:List (Int × Int)):Prop where
 ex:∃o es ep,h.get? a=some o/\o.ExactDict/\o.data=.dict es ep/\L3 es.toList ms
 sys:(a==sysModules)=false
 nd:(ms.map (·.1)).Nodup
theorem Q0.typeIs{s:Shared}{a:Addr}{ms:List (Int × Int)}(x:Q0 s.heap a ms):s.TypeIs (.ref a) "dict":=let ⟨o,_,_,ho,hc,_⟩:=x.ex;⟨o,ho,hc.1⟩
theorem eS{ms:List (Int × Int)}{k:Int}(h:ms.findIdx? (fun p=>decide (p.1=k))=none):lookI ms k=none:=by
 unfold lookI;rw[List.findIdx?_eq_none_iff]at h;rw[List.find?_eq_none.mpr (fun p hp=>by have:=h p hp;simpa using this)];rfl
theorem ER{ms:List (Int × Int)}{k:Int}{j:Nat}(h:ms.findIdx? (fun p=>decide (p.1=k))=some j):∃v,ms[j]?=some (k,v)/\lookI ms k=some v:=by
 induction ms generalizing j with
 | nil=>simp at h
 | cons p ms ih =>
   rw[List.findIdx?_cons]at h;by_cases q:p.1=k
   . rw[decide_eq_true q,if_pos rfl]at h;cases h;refine⟨p.2,by simp[←q],?_⟩;unfold lookI;rw[List.find?_cons_of_pos (by simpa using q)];rfl
   . rw[decide_eq_false q,if_neg (by decide)]at h;cases h2:ms.findIdx? (fun p=>decide (p.1=k)) with
     | none=>rw[h2]at h;cases h
     | some j' =>
       rw[h2]at h;have e:j=j'+1:=by simpa using h.symm
       subst e;obtain⟨v,h3,h4⟩:=ih h2;refine⟨v,by simpa using h3,?_⟩;unfold lookI at h4 ⊢;rw[List.find?_cons_of_neg (by simpa using q)];exact h4
theorem qG(fs:Array DictEntry)(p:DictEntry->Bool):fs.findIdx? p=fs.toList.findIdx? p:=by
 cases fs;simp
theorem VR{prog:Program}{w:World}{A:Around}{E:Value->Shared->Prop}{s:Shared}{x y:Int}{t u:Tok}{Q:Bool->Shared->Prop}(h:Q (decide (x=y)) s):wpAny (model prog w) A (eqBool (.int x t) (.int y u)) Q E s :=
 (intKind prog w).eqBool (by show Value.isInt x (.int x t)=true;simp[Value.isInt]) (by show Value.isInt y (.int y u)=true;simp[Value.isInt]) h
theorem sO{prog:Program}{w:World}{es:Array DictEntry}{ms:List (Int × Int)}(h:L3 es.toList ms):KeysOf (intKind prog w) es:=by
 intro e he;obtain⟨i,hi,rfl⟩:=Array.mem_iff_getElem.mp he;obtain⟨k,v,t,t',_,h1,h2,_⟩:=h.get (i:=i) (e:=es[i]) (by simp[hi]);exact⟨k,by show Value.isInt k _=true;rw[h1];simp[Value.isInt],h2⟩
theorem u9{prog:Program}{w:World}{A:Around}{E:Value->Shared->Prop}{s:Shared}{id:String}{a b:Addr}{ms ns:List (Int × Int)}{Q:Bool->Shared->Prop}(ha:Q0 s.heap a ms)(hb:Q0 s.heap b ns)
 (h:Q (ms.length==ns.length&&ms.all fun p=>decide (lookI ns p.1=some p.2)) s):wpAny (model prog w) A (Builtin.Dict.samePairs id a b) Q E s:=by
 obtain⟨oa,es,ep,hoa,_,hda,hea⟩:=ha.ex;obtain⟨ob,fs,QW,hob,_,hdb,XO⟩:=hb.ex;have la:es.size=ms.length:=by rw[←hea.length];simp
 have lb:fs.size=ns.length:=by rw[←XO.length];simp
 unfold Builtin.Dict.samePairs
 have sh:∀{c:Addr}{Q:Unit->Shared->Prop},(c==sysModules)=false->Q () s->wpAny (model prog w) A (Builtin.Dict.showsAll c) Q E s:=fun {c Q} hc hq=>by
  unfold Builtin.Dict.showsAll;rw[if_neg (by rw[hc];exact Bool.false_ne_true)];exact wpAny_pure hq
 refine wpAny_bind (sh ha.sys (wpAny_bind (sh hb.sys ?_)));refine wpAny_bind (wpAny_dictEntries hoa hda (wpAny_bind (wpAny_dictEntries hob hdb ?_)));by_cases hl:ms.length=ns.length
 . rw[if_neg (by simp[la,lb,hl])];have e0:(ms.length==ns.length)=true:=by simp[hl]
   rw[e0,Bool.true_and]at h;refine wpAny_bind (wpAny_dictEpoch hoa hda ?_);rw[Std.Legacy.Range.forIn_eq_forIn_range']
   refine wpAny_bind (wpAny_mono (wpAny_forIn_list _ (fun rest r s'=>s'=s/\r=(none,())/\∃i,rest=List.range' i (ms.length-i) 1/\i<=ms.length/\∀p∈ms.take i,lookI ns p.1=some p.2)
    (fun r s'=>s'=s/\((r=(none,())/\(ms.all fun p=>decide (lookI ns p.1=some p.2))=true)\/(r=(some false,())/\(ms.all fun p=>decide (lookI ns p.1=some p.2))=false))) ?_ ?_ _ _ ⟨rfl,rfl,0,?_,Nat.zero_le _,by simp⟩) (fun r s' hr=>?_) fun _ _ e=>e)
   . rintro i rest r s' ⟨rfl,rfl,i1,hr,hi,hd⟩
     have hlt:i1<ms.length:=by
      refine Nat.lt_of_not_le fun z=>?_;rw[show ms.length-i1=0 by omega]at hr;cases hr
     rw[show ms.length-i1=(ms.length-(i1+1))+1 by omega,List.range'_succ]at hr;cases hr;have XN:i<es.size:=by omega
     obtain⟨k,v,t,t',hm,h1,h2,h3⟩:=hea.get (i:=i) (e:=es[i]) (by simp[XN])
     have hmi:ms[i]=(k,v):=by
      rw[List.getElem?_eq_getElem hlt]at hm;exact Option.some.inj hm
     refine wpAny_bind (wpAny_dictEntries hoa hda ?_);rw[Array.getElem?_eq_getElem XN];dsimp only;refine wpAny_bind (wpAny_mono (Q:=fun same s''=>s''=s'/\same=decide (lookI ns k=some v)) (wpAny_holding ?_) (fun same s'' hs=>?_) fun _ _ e=>e)
     . rw[h1,h2];refine wpAny_bind (wpAny_dictFind_of (knd:=intKind prog w) (k:=k) (show Value.isInt k (.int k t)=true from by simp[Value.isInt]) hob hdb (sO XO) ?_)
       have ef:(fs.findIdx? fun e=>(intKind prog w).is k e.key)=ns.findIdx? fun p=>decide (p.1=k):=by
        rw[←XO.find k];show fs.findIdx? (fun e=>Value.isInt k e.key)=_;exact qG _ _
       rw[ef];cases hf:ns.findIdx? (fun p=>decide (p.1=k)) with
       | none =>
         dsimp only;refine wpAny_pure ⟨rfl,?_⟩;rw[eS hf];rfl
       | some j =>
         obtain⟨v',hj,hl2⟩:=ER hf;have hjn:j<ns.length:=(List.getElem?_eq_some_iff.mp hj).1;have hjf:j<fs.size:=by omega
         obtain⟨k2,v2,t2,t2',hm2,g1,g2,g3⟩:=XO.get (i:=j) (e:=fs[j]) (by simp[hjf]);rw[hj]at hm2;cases hm2;dsimp only;refine wpAny_bind (wpAny_dictEntries hob hdb ?_);rw[Array.getElem?_eq_getElem hjf];dsimp only;refine wpAny_holding ?_;rw[h3,g3];refine VR ⟨rfl,?_⟩;rw[hl2];by_cases q:v=v'
         . subst q;simp
         . have q':¬v'=v:=fun z=>q z.symm;simp[q,q']
     . obtain⟨rfl,hs⟩:=hs;by_cases q:lookI ns k=some v
       . rw[decide_eq_true q]at hs;subst hs;rw[if_neg (by decide)];refine wpAny_bind (wpAny_dictEpoch hoa hda ?_);rw[if_neg (by simp)];refine wpAny_pure ⟨rfl,rfl,i+1,rfl,hlt,fun p hp=>?_⟩;rw[List.take_succ,List.getElem?_eq_getElem hlt,hmi]at hp;rcases List.mem_append.mp hp with hp | hp
         . exact hd p hp
         . have:p=(k,v):=by simpa using hp
           subst this;exact q
       . rw[decide_eq_false q]at hs;subst hs;rw[if_pos (by decide)];refine wpAny_pure ⟨rfl,.inr ⟨rfl,?_⟩⟩;rw[List.all_eq_false];exact⟨(k,v),by rw[←hmi];exact List.getElem_mem hlt,by simpa using q⟩
   . rintro r s' ⟨rfl,rfl,i,hr,hi,hd⟩
     have e1:i=ms.length:=by
      refine Nat.le_antisymm hi (Nat.le_of_not_lt fun z=>?_);rw[show ms.length-i=(ms.length-(i+1))+1 by omega,List.range'_succ]at hr;cases hr
     subst e1;rw[List.take_length]at hd;exact⟨rfl,.inl ⟨rfl,List.all_eq_true.mpr fun p hp=>decide_eq_true (hd p hp)⟩⟩
   . simp[Std.Legacy.Range.size,la]
   . obtain⟨rfl,⟨rfl,e2⟩|⟨rfl,e2⟩⟩:=hr
     . rw[e2]at h;exact wpAny_pure h
     . rw[e2]at h;exact wpAny_pure h
 . rw[if_pos (by simp[la,lb];exact hl)];have e0:(ms.length==ns.length)=false:=by simp[hl]
   rw[e0,Bool.false_and]at h;exact wpAny_bind (wpAny_rule (wpAny_pure h))
end L2
namespace L2
open PySem PySem.Spec PyProof.Rows
section
variable{prog:Program}{w:World}{A:Around}{E:Value->Shared->Prop}
theorem AA:typeLookup (.type "list") "keys"=pure none:=am_miss_of_fast (by kernel_rfl)
theorem Wo{s:Shared}{a:Addr}{xs:Array Value}{k:Nat}{Q:Option Value->Shared->Prop}
 (hx:s.heap.get? a=some { cls:=.type "list",data:=.seq xs k }) (hA:A.handled=none)
 (h:∀h' tk,(∀b o,s.heap.get? b=some o->h'.get? b=some o)->Q none { s with heap:=h',toks:=tk }) :
 wpAny (model prog w) A (getAttr? (.ref a) "keys") Q E s:=by
 obtain⟨hp,g,d,tk,os⟩:=s;have hT:∀tk',(⟨hp,g,d,tk',os⟩:Shared).TypeIs (.ref a) "list":=fun _=>⟨_,hx,rfl⟩
 have f1:=sub_AttributeError;have f3:=F.slot_list_getattribute.lookup;have f4:=F.slot_list_getattribute.bind (.ref a);have f5:=am_list_getattr_none;unfold getAttr? getAttrBy? getAttrBy
 repeat (any_goals (first | assumption | exact hT _ | ((with_reducible show wpAny _ _ (call (Value.builtin "list.__getattribute__") _ _) _ _ _);refine call_meets F.slot_list_getattribute (hT _) am_entry_list_getattribute (F.args_list_getattribute_2 _ _) (meets_getattribute_miss_list a xs k #[] "keys" _ AA (by decide +kernel)) ⟨hx,hA,fun h' tk' e hx'=>?_⟩) | wp_step))
 obtain⟨t',u',he⟩:=hx'.there;show wpAny _ _ (getattributeRaised _ _ _ _ _ _ _) _ _ _;unfold getattributeRaised
 repeat (any_goals (first | assumption | wp_step))
 exact h _ _ hx'.keeps
theorem Ii:plainId "dict.update.loop"=true:=by decide +kernel
theorem Tr:entryFor table "dict.update.loop"=some Builtin.«dict.update.loop»:=entryFor_of_fast (by kernel_rfl)
variable{KT:Type}[DecidableEq KT]{knd:KeyKind prog w KT}
def WY(d it:Addr)(h0 h:Heap):Prop:=∀b o,b≠d->b≠it->h0.get? b=some o->h.get? b=some o
theorem JK(hh:A.handled=none){d it l:Addr}{items:Array Value}{prs:List (KT × Value)}(hl:prs.length=items.size)(VI:d≠it)(nld:l≠d)(nli:l≠it){h0:Heap}(hL:h0.IsList l items)
 (hP:∀(i:Nat) (x:Value),items[i]?=some x->∃(p:KT × Value) (t:Addr) (key:Value),prs[i]?=some p/\x=.ref t/\t≠d/\t≠it/\h0.IsTuple t #[key,p.2]/\knd.is p.1 key=true) {R:Result->Shared->Prop} :
 ∀(n i:Nat) (s:Shared) (acc:List (KT × Value)),prs.length-i=n->i<=prs.length->acc.length+n<=sizeLine->s.heap.DictOf knd d acc->s.heap.IsListIter it l i->WY d it h0 s.heap →
   (∀h' tk,h'.DictOf knd d (merged acc (prs.drop i))->WY d it h0 h'->R (.ok (.ret .none)) { s with heap:=h',toks:=tk }) →
   codeAny (model prog w) A (.builtin "dict.update.loop" ⟨[.ref d,.ref it,rawInt i,.none],[]⟩) R s:=by
 intro n
 induction n with
 | zero =>
   intro i s acc hn hi hz hd hit hb k;refine codeAny_builtin Tr ?_;rw[Around.under_plainId Ii];have ZT:s.heap.IsList l items:=let ⟨o,ho,r⟩:=hL;⟨o,hb _ _ nld nli ho,r⟩
   have hx:items[i]?=none:=by simp;omega
   show wpAny _ _ (pyNext (.ref it)>>=_) _ _ s;refine wpAny_bind (wpAny_pyNext_list_end hh hit ZT hx fun h' he=>?_);show wpAny _ _ (Builtin.Dict.addKeywords d []>>=_) _ _ _;refine wpAny_bind (wpAny_pure (wpAny_pure ?_));have e:prs.drop i=[]:=by simp;omega
   have k':=k h' s.toks (by rw[e];exact hd.extBut he VI) fun b o n1 n2 q=>he b o n2 (hb b o n1 n2 q);exact k'
 | succ n ih =>
   intro i s acc hn hi hz hd hit hb k;refine codeAny_builtin Tr ?_;rw[Around.under_plainId Ii];have ZT:s.heap.IsList l items:=let ⟨o,ho,r⟩:=hL;⟨o,hb _ _ nld nli ho,r⟩
   have hlt:i<items.size:=by omega
   obtain⟨p,t,key,hp,ex,ntd,nti,hT,hkey⟩:=hP i items[i] (by simp[hlt]);show wpAny _ _ (pyNext (.ref it)>>=_) _ _ s;refine wpAny_bind (wpAny_pyNext_list_item hit ZT (x:=items[i]) (by simp[hlt]) fun h1 ZL hs1=>?_);rw[ex];have hT1:h1.IsTuple t #[key,p.2]:=let ⟨o,ho,r⟩:=hT;⟨o,(hs1.2 t nti).trans (hb _ _ ntd nti ho),r⟩
   have hd1:h1.DictOf knd d acc:=hd.sameBut hs1 VI;obtain⟨o,ho,hc,m,hdat⟩:=hT1;refine wpAny_bind (wpAny_holding ?_);refine wpAny_bind (wpAny_tryCatch ?_);unfold Builtin.Dict.pairItems;refine wpAny_bind (wpAny_typeOf (show(({ s with heap:=h1 }:Shared).TypeIs (.ref t) "tuple") from⟨o,ho,hc⟩) ?_);rw[if_pos (by decide)];refine wpAny_bind (wpAny_seqItems ho hdat (wpAny_pure ?_));show wpAny _ _ (holding [key,p.2] (dictSet d key p.2)) _ _ _;refine wpAny_holding (wpAny_dictSet_pairs (s:={ s with heap:=h1 }) hkey hd1 (fun h2 hd2 hs2=>?_) (by omega));refine wpAny_pure ⟨plainId_quiet Ii _,?_⟩
   have e2:prs.drop i=p::prs.drop (i+1):=by
    rw[List.drop_eq_getElem_cons (by omega)]
    congr 1
    rw[List.getElem?_eq_getElem (by omega)]at hp;exact Option.some.inj hp
   have hl2:=stored_length_le acc p.1 p.2;refine ih (i+1) { s with heap:=h2,toks:=s.toks+1 } (stored acc p.1 p.2) (by omega) (by omega) (by omega) hd2 ?_ (fun b o' n1 n2 q=>?_) (fun h' tk hd' hb'=>k h' tk (by rw[e2];exact hd') hb')
   . obtain⟨oi,hoi,ri⟩:=ZL;exact⟨oi,(hs2.2 it (Ne.symm VI)).trans hoi,ri⟩
   . exact(hs2.2 b n1).trans ((hs1.2 b n2).trans (hb b o' n1 n2 q))
end
theorem vals_pair{x y:V}{us:List Value}(r:Vals [x,y] us):∃a b,us=[a,b]/\RelV x a/\RelV y b:=by
 cases r with
 | cons h1 r =>
   cases r with
   | cons h2 r =>
     cases r;exact⟨_,_,rfl,h1,h2⟩
theorem bQ{P:Program}{w:World}{H:Hp}{h:Heap}(hok:L4 P w H h):∀(ts:List Addr) (kvs:List (Key × V)),ts.length=kvs.length->(∀(i:Nat) t,ts[i]?=some t->∃kv:Key × V,kvs[i]?=some kv/\H t=some (.tup [kV kv.1,kv.2])) →
 ∃prs:List (Key × Value),KV kvs prs/\prs.length=ts.length/\∀(i:Nat) t,ts[i]?=some t->∃(p:Key × Value) (key:Value),prs[i]?=some p/\h.IsTuple t #[key,p.2]/\(mixKind P w).is p.1 key=true
 | [],[],_,_=>⟨[],.nil,rfl,fun i t e=>by simp at e⟩
 | [],_::_,hl,_=>by simp at hl
 | _::_,[],hl,_=>by simp at hl
 | t::ts,kv::kvs,hl,hk=>by
   obtain⟨prs,h1,h2,h3⟩:=bQ hok ts kvs (by simpa using hl) fun i t e=>by
    obtain⟨kv',e1,e2⟩:=hk (i+1) t (by simpa using e);exact⟨kv',by simpa using e1,e2⟩
   obtain⟨kv',e1,e2⟩:=hk 0 t rfl;have e1':kv=kv':=by simpa using e1
   subst e1';obtain⟨_,its,rv,o,ho,hc,hdn,n,hd⟩:=hok t _ e2;obtain⟨a,b,rfl,ra,rb⟩:=vals_pair rv;refine⟨(kv.1,b)::prs,.cons ⟨rfl,rb⟩ h1,by simp[h2],fun i t' e=>?_⟩;cases i with
   | zero =>
     have:t=t':=by simpa using e
     subst this;exact⟨(kv.1,b),a,rfl,⟨o,ho,hc,n,hd⟩,kV_is ra⟩
   | succ i =>
     obtain⟨p,key,q1,q2,q3⟩:=h3 i t' (by simpa using e);exact⟨p,key,by simpa using q1,q2,q3⟩
theorem Xw{X:Cx}(hc:X.calm=true):Ei X (.type "dict") (fun xs H Q=>∃(p:Addr) (ts:List Addr) (kvs:List (Key × V)),xs=[.ref p]/\H p=some (.lst (ts.map V.ref))/\ts.length=kvs.length ∧
 (∀(i:Nat) t,ts[i]?=some t->∃kv:Key × V,kvs[i]?=some kv/\H t=some (.tup [kV kv.1,kv.2]))/\∀D,H D=none->Q (.ref D) (upd H D (.dK (Fi [] kvs)))):=by
 intro Ac s σ H xs us Q I r h;obtain⟨l,ts,kvs,rfl,hl,hlen,hk,q⟩:=h;obtain⟨u,rfl,ru⟩:=Md r;cases ru;have hh:X.A.handled=none:=I.ok.hd hc;obtain⟨hz,its,n,rv,ho⟩:=I.hok l _ hl;rw[List.length_map]at hz;have hil:its.length=ts.length:=by rw[←rv.length,List.length_map]
 obtain⟨prs,hkv,hpl,hP⟩:=bQ I.hok ts kvs hlen hk
 have at_:∀(i:Nat) (x:Value),its.toArray[i]?=some x->∃t,ts[i]?=some t/\x=.ref t:=fun i x e=>by
  have e':its[i]?=some x:=by simpa using e
  have hlt:i<its.length:=(List.getElem?_eq_some_iff.mp e').1;have hb:ts[i]?=some (ts[i]'(by omega)):=by simp<;>omega
  obtain⟨u,hu,ru⟩:=rv.get (i:=i) (x:=V.ref (ts[i]'(by omega))) (by rw[List.getElem?_map,hb];rfl);rw[e']at hu;cases hu;cases ru;exact⟨_,hb,rfl⟩
 refine callType_codes (Q₁:=fun obj s₁=>obj=.ref s.heap.objs.size/\s₁={ s with heap:=s.heap.push { cls:=.type "dict",data:=.dict #[] } }) PySem.F.kt_called_dict (PySem.F.kt_typeCall_dict_1 _) PySem.F.entry_dict_init (kt_code_dict_new _ ⟨rfl,rfl⟩) ?_;rintro obj s₁ ⟨rfl,rfl⟩;have hnew:(s.heap.push { cls:=.type "dict",data:=.dict #[] }).DictOf (mixKind X.prog X.w) s.heap.objs.size []:=Heap.DictOf.new s.heap;refine⟨hnew.typeIs,PySem.F.args_dict_init_2 _ _,?_⟩;unfold Builtin.«dict.__init__»;refine wpAny_bind ?_;unfold Builtin.Dict.selfAndRest;refine wpAny_bind (wpAny_notOrdered_dict hnew.typeIs ?_);show wpAny _ _ (pure (s.heap.objs.size,[Value.ref l])) _ _ _;refine wpAny_pure ?_;show wpAny _ _ (Builtin.Dict.updateFrom "dict.__init__" s.heap.objs.size (.ref l) [] .none) _ _ _;unfold Builtin.Dict.updateFrom;have xK:(s.heap.push { cls:=.type "dict",data:=.dict #[] }).get? l=some { cls:=.type "list",data:=.seq its.toArray n }:=Heap.get?_push_of_some _ ho;refine wpAny_bind (wpAny_typeOf (show(({ s with heap:=s.heap.push { cls:=.type "dict",data:=.dict #[] } }:Shared).TypeIs (.ref l) "list") from⟨_,xK,rfl⟩) ?_);rw[if_pos (by decide)];refine wpAny_bind (Wo xK hh fun h1 tk hk1=>?_);rw[if_pos (show(none:Option Value).isNone=true from rfl)];refine wpAny_bind (wpAny_rule ?_);have hl1:h1.IsList l its.toArray:=⟨_,hk1 _ _ xK,rfl,n,rfl⟩
 refine wpAny_bind (wpAny_pyIter_list hl1 ?_);refine wpAny_pure ⟨plainId_quiet Ii _,?_⟩;have lt0:l<s.heap.objs.size:=Heap.lt_size ho;have nD:∀b o,s.heap.get? b=some o->b≠s.heap.objs.size:=fun b o e=>Nat.ne_of_lt (Heap.lt_size e);have up:∀b o,s.heap.get? b=some o->h1.get? b=some o:=fun b o e=>hk1 _ _ (Heap.get?_push_of_some _ e);have nI:∀b o,s.heap.get? b=some o->b≠h1.objs.size:=fun b o e=>Nat.ne_of_lt (Heap.lt_size (up b o e));obtain⟨oD,esD,epD,uH,rD⟩:=id hnew;have L9:h1.DictOf (mixKind X.prog X.w) s.heap.objs.size []:=⟨oD,esD,epD,hk1 _ _ uH,rD⟩
 have VI:s.heap.objs.size≠h1.objs.size:=Nat.ne_of_lt (Heap.lt_size (hk1 _ _ uH))
 refine JK (knd:=mixKind X.prog X.w) (show X.A.in1.handled=none from hh) (prs:=prs) (items:=its.toArray) (l:=l) (d:=s.heap.objs.size) (it:=h1.objs.size) (h0:=h1.push { cls:=.type "list_iterator",data:=.fields #[.ref l,.int 0 0] }) (by simp;omega) VI (nD _ _ ho) (nI _ _ ho)
  ⟨_,Heap.get?_push_of_some _ (hk1 _ _ xK),rfl,n,rfl⟩ (fun i x e=>?_) prs.length 0 _ [] (by omega) (by omega) ?_ (L9.push _) ⟨_,Heap.get?_push_size _ rfl,rfl,rfl⟩ (fun b o _ _ e=>e) (fun h' tk' hd' hb'=>?_)
 . obtain⟨t,e1,rfl⟩:=at_ i x e;obtain⟨p,key,e2,⟨o,ho',r'⟩,e4⟩:=hP i t e1;exact⟨p,t,key,e2,rfl,nD _ _ ho',nI _ _ ho',⟨o,Heap.get?_push_of_some _ (up _ _ ho'),r'⟩,e4⟩
 . have e0:([]:List (Key × Value)).length=0:=rfl;omega
 . refine⟨rfl,.ref s.heap.objs.size,upd H s.heap.objs.size (.dK (Fi [] kvs)),?_,rfl,q _ (I.hok.fresh (Nat.le_refl _))⟩
   have hzz:(Fi [] kvs).length<=sizeLine:=by
    have h1:=Iz kvs [];rw[List.length_nil]at h1;omega
   refine I.laid (a:=s.heap.objs.size) (o:=.dK (Fi [] kvs)) (t':=tk') (fun b o e=>hb' b o (nD _ _ e) (nI _ _ e) (Heap.get?_push_of_some _ (up _ _ e))) (Nat.le_refl _) (Pn hzz (beq_eq_false_iff_ne.mpr (Ne.symm (Nat.ne_of_lt I.big))) (hkv.merge .nil) ?_);simpa using hd'
theorem Kr:∀(more kvs:List (Key × V)),((kvs++more).map (·.1)).Nodup->Fi kvs more=kvs++more
 | [],kvs,_=>by simp[Fi]
 | p::more,kvs,h=>by
   have hnot:(kvs.any fun kv=>decide (kv.1=p.1))=false:=by
    rw[List.any_eq_false];intro kv hkv hd;have e:kv.1=p.1:=by simpa using hd
    rw[List.map_append,List.nodup_append]at h;exact h.2.2 kv.1 (List.mem_map_of_mem hkv) p.1 (by simp) e
   have e:Km kvs p.1 p.2=kvs++[p]:=by
    unfold Km;rw[if_neg (by rw[hnot];decide)]
   show Fi (Km kvs p.1 p.2) more=_;rw[e,Kr more (kvs++[p]) (by simpa using h)];simp
end L2
namespace L2
open PySem PySem.Spec PyProof.Rows PySem.SeqAt
inductive D where
 | non | bl (b:Bool) | int (i:Int) | str (x:Str) | tup (ds:List D) | lst (ds:List D)
mutual
def Rep(K:W.Frag)(H:Hp):V->D->Prop
 | v,.non=>v=.non
 | v,.bl b=>v=.bl b
 | v,.int i=>v=.int i
 | v,.str x=>v=.str x
 | v,.tup ds=>∃a vs,v=.ref a/\Dw K H a vs/\Reps K H vs ds
 | v,.lst ds=>∃a vs,v=.ref a/\SqL K H a vs/\Reps K H vs ds
def Reps(K:W.Frag)(H:Hp):List V->List D->Prop
 | vs,[]=>vs=[]
 | vs,d::ds=>∃v r,vs=v::r/\Rep K H v d/\Reps K H r ds
end
mutual
def pT:D->Bool
 | .lst _=>false
 | .tup ds=>imms ds
 | _=>true
def imms:List D->Bool
 | []=>true
 | d::ds=>pT d&&imms ds
end
mutual
def dep:D->Nat
 | .lst ds=>deps ds+1
 | .tup ds=>deps ds+1
 | _=>0
def deps:List D->Nat
 | []=>0
 | d::ds=>max (dep d) (deps ds)
end
mutual
def eqD:D->D->Bool
 | .non,.non=>true
 | .bl a,.bl b=>a==b
 | .bl a,.int b=>(if a then 1 else 0)==b
 | .int a,.bl b=>a==(if b then 1 else 0)
 | .int a,.int b=>a==b
 | .str a,.str b=>a==b
 | .tup a,.tup b=>eqDs a b
 | .lst a,.lst b=>eqDs a b
 | _,_=>false
def eqDs:List D->List D->Bool
 | [],[]=>true
 | a::r,b::q=>eqD a b&&eqDs r q
 | _,_=>false
end
mutual
theorem Fy(d:D):eqD d d=true:=by
 cases d with
 | non=>rfl
 | bl b=>simp[eqD]
 | int b=>simp[eqD]
 | str b=>simp[eqD]
 | tup ds=>simp only[eqD];exact eqDs_refl ds
 | lst ds=>simp only[eqD];exact eqDs_refl ds
theorem eqDs_refl(ds:List D):eqDs ds ds=true:=by
 cases ds with
 | nil=>rfl
 | cons d r=>simp only[eqDs,Bool.and_eq_true];exact⟨Fy d,eqDs_refl r⟩
end
theorem eqDs_len:∀{a b:List D},eqDs a b=true->a.length=b.length
 | [],[],_=>rfl
 | [],_::_,h=>by simp[eqDs]at h
 | _::_,[],h=>by simp[eqDs]at h
 | x::a,y::b,h=>by
   simp only[eqDs,Bool.and_eq_true]at h;rw[List.length_cons,List.length_cons,eqDs_len h.2]
theorem M9:∀(a b:List D),a.length=b.length->eqDs a b=(List.range a.length).all fun j=>match a[j]?,b[j]? with | some x,some y=>eqD x y | _,_=>true
 | [],[],_=>by simp[eqDs]
 | [],_::_,h=>by simp at h
 | _::_,[],h=>by simp at h
 | x::a,y::b,h=>by
   have h':a.length=b.length:=by simpa using h
   rw[List.length_cons,List.range_succ_eq_map,List.all_cons,List.all_map];simp only[eqDs,M9 a b h']
   congr 1
structure E8(H H':Hp):Prop where
 tup:∀b xs,H b=some (.tup xs)->H' b=some (.tup xs)
 frz:∀b o u,H b=some (.frz o u)->H' b=some (.frz o u)
section
variable{K:W.Frag}{H H' H1 H2:Hp}{a l p:Addr}{xs:List V}{o:HO}
theorem Same.t(x:Same H H'):E8 H H':=⟨fun b xs h=>x b _ h,fun b o u h=>x b _ h⟩
theorem E8.lst(h:H l=some (.lst xs)):E8 H (upd H l o):=⟨fun b ys e=>by rw[Ae (Dh e h (by intro z;cases z))];exact e,fun b ob u e=>by rw[Ae (Dh e h (by intro z;cases z))];exact e⟩
theorem Same.new(h:H l=none):Same H (upd H l o):=fun b u e=>by rw[Ae (Ap e h)];exact e
theorem Same.turn(x:Same H H1)(h:H l=none):Same H (upd H1 l o):=fun b u e=>by rw[Ae (Ap e h)];exact x b u e
theorem Dw.t(x:E8 H H')(h:Dw K H a xs):Dw K H' a xs:=by
 rcases h with(h|⟨o,h⟩) | h
 . exact .inl (.inl (x.tup _ _ h))
 . exact .inl (.inr ⟨o,x.frz _ _ _ h⟩)
 . exact .inr h
theorem Same.seqT(x:Same H H')(h:Dw K H a xs):Dw K H' a xs:=h.t x.t
mutual
theorem Rep.t(x:E8 H H'){v:V}{d:D}(hi:pT d=true)(h:Rep K H v d):Rep K H' v d:=by
 cases d with
 | non=>exact h
 | bl b=>exact h
 | int i=>exact h
 | str x=>exact h
 | tup ds =>
   obtain⟨a,vs,e,q,r⟩:=h;exact⟨a,vs,e,q.t x,Reps.t x (by simpa[pT]using hi) r⟩
 | lst ds=>simp[pT]at hi
theorem Reps.t(x:E8 H H'){vs:List V}{ds:List D}(hi:imms ds=true)(h:Reps K H vs ds):Reps K H' vs ds:=by
 cases ds with
 | nil=>exact h
 | cons d r =>
   obtain⟨v,q,e,h1,h2⟩:=h;simp only[imms,Bool.and_eq_true]at hi;exact⟨v,q,e,Rep.t x hi.1 h1,Reps.t x hi.2 h2⟩
end
mutual
theorem Rep.same(x:Same H H'){v:V}{d:D}(h:Rep K H v d):Rep K H' v d:=by
 cases d with
 | non=>exact h
 | bl b=>exact h
 | int i=>exact h
 | str x=>exact h
 | tup ds =>
   obtain⟨a,vs,e,q,r⟩:=h;exact⟨a,vs,e,x.seqT q,Reps.same x r⟩
 | lst ds =>
   obtain⟨a,vs,e,q,r⟩:=h;exact⟨a,vs,e,x.seq q,Reps.same x r⟩
theorem Reps.same(x:Same H H'){vs:List V}{ds:List D}(h:Reps K H vs ds):Reps K H' vs ds:=by
 cases ds with
 | nil=>exact h
 | cons d r =>
   obtain⟨v,q,e,h1,h2⟩:=h;exact⟨v,q,e,Rep.same x h1,Reps.same x h2⟩
end
theorem Reps.length:∀{vs:List V}{ds:List D},Reps K H vs ds->vs.length=ds.length
 | vs,[],h=>by cases (show vs=[] from h);rfl
 | vs,d::ds,h=>by
   obtain⟨v,r,rfl,_,h2⟩:=h;rw[List.length_cons,List.length_cons,Reps.length h2]
theorem Reps.get:∀{vs:List V}{ds:List D}{i:Nat}{d:D},Reps K H vs ds->ds[i]?=some d->∃v,vs[i]?=some v/\Rep K H v d
 | vs,[],i,d,h,e=>by simp at e
 | vs,d0::ds,0,d,h,e=>by
   obtain⟨v,r,rfl,h1,_⟩:=h;simp only[List.getElem?_cons_zero,Option.some.injEq]at e;subst e;exact⟨v,by simp,h1⟩
 | vs,d0::ds,i+1,d,h,e=>by
   obtain⟨v,r,rfl,_,h2⟩:=h;obtain⟨u,e1,e2⟩:=Reps.get (i:=i) h2 (by simpa using e);exact⟨u,by simpa using e1,e2⟩
theorem Reps.getV:∀{vs:List V}{ds:List D}{i:Nat}{v:V},Reps K H vs ds->vs[i]?=some v->∃d,ds[i]?=some d/\Rep K H v d:=fun {vs ds i v} h e=>by
 have hl:=h.length;have hi:i<vs.length:=(List.getElem?_eq_some_iff.mp e).1;obtain⟨d,hd⟩:∃d,ds[i]?=some d:=⟨ds[i]'(by omega),by simp<;>omega⟩
 obtain⟨u,e1,e2⟩:=h.get hd;rw[e]at e1;cases e1;exact⟨d,hd,e2⟩
theorem Reps.append:∀{vs ws:List V}{ds es:List D},Reps K H vs ds->Reps K H ws es->Reps K H (vs++ws) (ds++es)
 | vs,ws,[],es,h,h'=>by cases (show vs=[] from h);exact h'
 | vs,ws,d::ds,es,h,h'=>by
   obtain⟨v,r,rfl,h1,h2⟩:=h;exact⟨v,r++ws,rfl,h1,Reps.append h2 h'⟩
theorem Reps.take:∀{vs:List V}{ds:List D} (n:Nat),Reps K H vs ds->Reps K H (vs.take n) (ds.take n)
 | vs,ds,0,h=>by simp[Reps]
 | vs,[],n+1,h=>by cases (show vs=[] from h);simp[Reps]
 | vs,d::ds,n+1,h=>by
   obtain⟨v,r,rfl,h1,h2⟩:=h;exact⟨v,r.take n,rfl,h1,Reps.take n h2⟩
def Cb(ns:List Int):List D:=ns.map D.int
abbrev tI(ns:List Int):D:=.tup (Cb ns)
theorem d8:∀ns:List Int,imms (Cb ns)=true
 | []=>rfl
 | n::ns=>by show(pT (.int n)&&imms (Cb ns))=true;rw[d8 ns];rfl
theorem aI(ns:List Int):pT (tI ns)=true:=d8 ns
theorem Fw:∀xs:LLInt,imms (xs.map tI)=true
 | []=>rfl
 | x::xs=>by show(pT (tI x)&&imms (xs.map tI))=true;rw[Fw xs,aI];rfl
theorem Gx:∀{vs:List V}{ns:List Int},Reps K H vs (Cb ns)↔vs=ns.map V.int
 | vs,[]=>Iff.rfl
 | vs,n::ns=>by
   constructor
   . rintro ⟨v,r,rfl,h1,h2⟩;have W3:v=.int n:=h1;rw[W3,Gx.mp h2];rfl
   . rintro rfl;exact⟨.int n,ns.map V.int,rfl,rfl,Gx.mpr rfl⟩
end
section
variable{X:Cx}{Ac:LAObj}{σ:St}{H:Hp}{s:Shared}
theorem GA(I:Inv X Ac σ H s){a:Addr}{xs ys:List V}(h:Dw X.K H a xs)(h':SqL X.K H a ys):False:=by
 obtain⟨its,r,⟨o,e,c,n,d⟩,_⟩:=I.tuple h;obtain⟨its',r',⟨o',n',e',c',_,d'⟩,_⟩:=I.list h';rw[e]at e';cases e';rw[c]at c';have z:("tuple":String)="list":=by injection c'
 exact absurd z (by decide)
mutual
theorem Rep.inj(I:Inv X Ac σ H s){v:V}{d e:D}(h:Rep X.K H v d)(h':Rep X.K H v e):d=e:=by
 cases d with
 | non=>cases (show v=.non from h);cases e<;>first | rfl | (exfalso;first | (cases (show V.non=_ from h')) | (obtain⟨_,_,z,_⟩:=h';cases z))
 | bl b=>cases (show v=.bl b from h);cases e<;>first | (cases (show V.bl b=_ from h');rfl) | (exfalso;first | (cases (show V.bl b=_ from h')) | (obtain⟨_,_,z,_⟩:=h';cases z))
 | int b=>cases (show v=.int b from h);cases e<;>first | (cases (show V.int b=_ from h');rfl) | (exfalso;first | (cases (show V.int b=_ from h')) | (obtain⟨_,_,z,_⟩:=h';cases z))
 | str b=>cases (show v=.str b from h);cases e<;>first | (cases (show V.str b=_ from h');rfl) | (exfalso;first | (cases (show V.str b=_ from h')) | (obtain⟨_,_,z,_⟩:=h';cases z))
 | tup ds =>
   obtain⟨a,vs,rfl,q,r⟩:=h;cases e with
   | tup es =>
     obtain⟨b,ws,z,q',r'⟩:=h';cases z;have e1:=I.tuple_inj q q';subst e1;rw[Reps.inj I r r']
   | lst es =>
     obtain⟨b,ws,z,q',r'⟩:=h';cases z;exact(GA I q q').elim
   | non=>cases (show V.ref a=_ from h')
   | bl _=>cases (show V.ref a=_ from h')
   | int _=>cases (show V.ref a=_ from h')
   | str _=>cases (show V.ref a=_ from h')
 | lst ds =>
   obtain⟨a,vs,rfl,q,r⟩:=h;cases e with
   | lst es =>
     obtain⟨b,ws,z,q',r'⟩:=h';cases z;have e1:=I.list_inj q q';subst e1;rw[Reps.inj I r r']
   | tup es =>
     obtain⟨b,ws,z,q',r'⟩:=h';cases z;exact(GA I q' q).elim
   | non=>cases (show V.ref a=_ from h')
   | bl _=>cases (show V.ref a=_ from h')
   | int _=>cases (show V.ref a=_ from h')
   | str _=>cases (show V.ref a=_ from h')
theorem Reps.inj(I:Inv X Ac σ H s){vs:List V}{ds es:List D}(h:Reps X.K H vs ds)(h':Reps X.K H vs es):ds=es:=by
 cases ds with
 | nil =>
   cases (show vs=[] from h);cases es with
   | nil=>rfl
   | cons e es=>obtain⟨_,_,z,_⟩:=h';cases z
 | cons d ds =>
   obtain⟨v,r,rfl,h1,h2⟩:=h;cases es with
   | nil=>cases (show v::r=[] from h')
   | cons e es =>
     obtain⟨v',r',z,W3,h2'⟩:=h';cases z;rw[Rep.inj I h1 W3,Reps.inj I h2 h2']
end
def EqD(X:Cx)(H:Hp)(s:Shared)(d:D):Prop:=∀(A:Around) (x y:V) (u v:Value) (e:D),A.units+dep d<cLine->Rep X.K H x d->Rep X.K H y e->RelV x u->RelV y v->RcAt A s u v (eqD d e)/\EqAt A s u v (eqD d e)
theorem u6(I:Inv X Ac σ H s){ds es:List D}{vs ws:List V}{us us':List Value}{A:Around}(hu:A.units+deps ds<cLine)(r:Reps X.K H vs ds)(r':Reps X.K H ws es)(rv:Vals vs us)(fT:Vals ws us')
 (ih:∀d∈ds,EqD X H s d) (hdm:∀d∈ds,dep d<=deps ds):∀j (h1:j<us.toArray.size) (h2:j<us'.toArray.size),EqAt A s us.toArray[j] us'.toArray[j] (match ds[j]?,es[j]? with | some x,some y=>eqD x y | _,_=>true):=by
 intro j h1 h2;have l1:=r.length;have l2:=r'.length;have l3:=rv.length;have l4:=fT.length;have W3:j<us.length:=by simpa using h1
 have h2':j<us'.length:=by simpa using h2
 have e1:ds[j]?=some (ds[j]'(by omega)):=by simp<;>omega
 have e2:es[j]?=some (es[j]'(by omega)):=by simp<;>omega
 obtain⟨v,ev,rd⟩:=r.get e1;obtain⟨w,ew,re⟩:=r'.get e2;obtain⟨u,eu,ru⟩:=rv.get ev;obtain⟨u',eu',ru'⟩:=fT.get ew
 have f1:us.toArray[j]=u:=by
  have:us[j]?=some us[j]:=by simp
  rw[eu]at this;have:=(Option.some.inj this).symm;simpa using this
 have f2:us'.toArray[j]=u':=by
  have:us'[j]?=some us'[j]:=by simp
  rw[eu']at this;have:=(Option.some.inj this).symm;simpa using this
 rw[f1,f2,e1,e2];have hm:ds[j]'(by omega)∈ds:=List.getElem_mem _;exact(ih _ hm A v w u u' _ (by have:=hdm _ hm;omega) rd re ru ru').2
theorem N6:∀{ds:List D}{d:D},d∈ds->dep d<=deps ds
 | d0::ds,d,h=>by
   simp only[deps];rcases List.mem_cons.mp h with rfl | h
   . omega
   . have:=N6 h;omega
theorem Nv{a b:List D}(h:¬a.length=b.length):eqDs a b=false:=by
 cases q:eqDs a b with
 | false=>rfl
 | true=>exact absurd (eqDs_len q) h
mutual
theorem fB(I:Inv X Ac σ H s)(d:D):EqD X H s d:=by
 intro A x y u v e hu hx hy rx ry;cases d with
 | non =>
   cases (show x=.non from hx);cases (show u=Value.none from rx);cases e with
   | non=>cases (show y=.non from hy);cases (show v=Value.none from ry);exact⟨.none_none,.same _⟩
   | bl b=>cases (show y=.bl b from hy);cases (show v=Value.bool b from ry);exact⟨.none_bool b,.none_bool b⟩
   | int i=>cases (show y=.int i from hy);obtain⟨t,rfl⟩:=ry;exact⟨.none_int i t,.none_int i t⟩
   | str z=>cases (show y=.str z from hy);obtain⟨t,rfl⟩:=ry;exact⟨.none_str z t,.none_str z t⟩
   | tup es=>obtain⟨a,vs,rfl,q,r⟩:=hy;cases ry;obtain⟨its,_,p,_⟩:=I.tuple q;exact⟨.none_tuple p (by omega),.none_tuple p (by omega)⟩
   | lst es=>obtain⟨a,vs,rfl,q,r⟩:=hy;cases ry;obtain⟨its,_,p,_⟩:=I.list q;exact⟨.none_list p.isList (by omega),.none_list p.isList (by omega)⟩
 | bl c =>
   cases (show x=.bl c from hx);cases (show u=Value.bool c from rx);cases e with
   | non=>cases (show y=.non from hy);cases (show v=Value.none from ry);exact⟨.bool_none c,.bool_none c⟩
   | bl b=>cases (show y=.bl b from hy);cases (show v=Value.bool b from ry);exact⟨.bool_bool c b,.bool_bool c b⟩
   | int i=>cases (show y=.int i from hy);obtain⟨t,rfl⟩:=ry;exact⟨.bool_int c i t,.bool_int c i t⟩
   | str z=>cases (show y=.str z from hy);obtain⟨t,rfl⟩:=ry;exact⟨.bool_str c z t,.bool_str c z t⟩
   | tup es=>obtain⟨a,vs,rfl,q,r⟩:=hy;cases ry;obtain⟨its,_,p,_⟩:=I.tuple q;exact⟨.bool_tuple c p (by omega),.bool_tuple c p (by omega)⟩
   | lst es=>obtain⟨a,vs,rfl,q,r⟩:=hy;cases ry;obtain⟨its,_,p,_⟩:=I.list q;exact⟨.bool_list c p.isList (by omega),.bool_list c p.isList (by omega)⟩
 | int c =>
   cases (show x=.int c from hx);obtain⟨t,rfl⟩:=rx;cases e with
   | non=>cases (show y=.non from hy);cases (show v=Value.none from ry);exact⟨.int_none c t,.int_none c t⟩
   | bl b=>cases (show y=.bl b from hy);cases (show v=Value.bool b from ry);exact⟨.int_bool c t b,.int_bool c t b⟩
   | int i=>cases (show y=.int i from hy);obtain⟨t',rfl⟩:=ry;exact⟨.int_int c t i t',.int_int c t i t'⟩
   | str z=>cases (show y=.str z from hy);obtain⟨t',rfl⟩:=ry;exact⟨.int_str c t z t',.int_str c t z t'⟩
   | tup es=>obtain⟨a,vs,rfl,q,r⟩:=hy;cases ry;obtain⟨its,_,p,_⟩:=I.tuple q;exact⟨.int_tuple c t p (by omega),.int_tuple c t p (by omega)⟩
   | lst es=>obtain⟨a,vs,rfl,q,r⟩:=hy;cases ry;obtain⟨its,_,p,_⟩:=I.list q;exact⟨.int_list c t p.isList (by omega),.int_list c t p.isList (by omega)⟩
 | str c =>
   cases (show x=.str c from hx);obtain⟨t,rfl⟩:=rx;cases e with
   | non=>cases (show y=.non from hy);cases (show v=Value.none from ry);exact⟨.str_none c t,.str_none c t⟩
   | bl b=>cases (show y=.bl b from hy);cases (show v=Value.bool b from ry);exact⟨.str_bool c t b,.str_bool c t b⟩
   | int i=>cases (show y=.int i from hy);obtain⟨t',rfl⟩:=ry;exact⟨.str_int c t i t',.str_int c t i t'⟩
   | str z=>cases (show y=.str z from hy);obtain⟨t',rfl⟩:=ry;exact⟨.str_str c t z t',.str_str c t z t'⟩
   | tup es=>obtain⟨a,vs,rfl,q,r⟩:=hy;cases ry;obtain⟨its,_,p,_⟩:=I.tuple q;exact⟨.str_tuple c t p (by omega),.str_tuple c t p (by omega)⟩
   | lst es=>obtain⟨a,vs,rfl,q,r⟩:=hy;cases ry;obtain⟨its,_,p,_⟩:=I.list q;exact⟨.str_list c t p.isList (by omega),.str_list c t p.isList (by omega)⟩
 | tup ds =>
   have hx':=hx;obtain⟨a,vs,rfl,q,r⟩:=hx;cases rx;obtain⟨its,rv,p,_⟩:=I.tuple q;have ZG:A.units+1+deps ds<cLine:=by simp only[dep]at hu;omega
   cases e with
   | non=>cases (show y=.non from hy);cases (show v=Value.none from ry);exact⟨.tuple_none p (by omega),.tuple_none p (by omega)⟩
   | bl b=>cases (show y=.bl b from hy);cases (show v=Value.bool b from ry);exact⟨.tuple_bool b p (by omega),.tuple_bool b p (by omega)⟩
   | int i=>cases (show y=.int i from hy);obtain⟨t',rfl⟩:=ry;exact⟨.tuple_int i t' p (by omega),.tuple_int i t' p (by omega)⟩
   | str z=>cases (show y=.str z from hy);obtain⟨t',rfl⟩:=ry;exact⟨.tuple_str z t' p (by omega),.tuple_str z t' p (by omega)⟩
   | lst es=>obtain⟨b,ws,rfl,q',r'⟩:=hy;cases ry;obtain⟨its',_,p',_⟩:=I.list q';exact⟨.tuple_list p p'.isList (by omega),.tuple_list p p'.isList (by omega)⟩
   | tup es =>
     have hy':=hy;obtain⟨b,ws,rfl,q',r'⟩:=hy;cases ry;obtain⟨its',fT,p',_⟩:=I.tuple q'
     have main:RcAt A s (.ref a) (.ref b) (eqD (.tup ds) (.tup es)):=by
      have:=RcAt.tuples (A:=A) p p' (by omega) (u6 I (A:=A.in1) (by show A.units+1+deps ds<cLine;omega) r r' rv fT (eqDs_ok I ds) fun d h=>N6 h);have l1:=r.length;have l2:=r'.length;have l3:=rv.length;have l4:=fT.length;have e1:its.toArray.size=ds.length:=by simp<;>omega
      have e2:its'.toArray.size=es.length:=by simp<;>omega
      rw[e1,e2]at this;simp only[eqD];by_cases hl:ds.length=es.length
      . rw[M9 ds es hl];rw[←hl,Nat.min_self]at this;simpa using this
      . rw[Nv hl];have z:(ds.length==es.length)=false:=by simpa using hl
        rw[z,Bool.and_false]at this;exact this
     refine⟨main,?_⟩;by_cases hab:a=b
     . subst hab;have e3:D.tup ds=D.tup es:=Rep.inj I hx' hy';rw[e3,Fy];exact .same _
     . exact .of_refs hab main
 | lst ds =>
   have hx':=hx;obtain⟨a,vs,rfl,q,r⟩:=hx;cases rx;obtain⟨its,rv,p,_⟩:=I.list q;have ZG:A.units+1+deps ds<cLine:=by simp only[dep]at hu;omega
   cases e with
   | non=>cases (show y=.non from hy);cases (show v=Value.none from ry);exact⟨.list_none p.isList (by omega),.list_none p.isList (by omega)⟩
   | bl b=>cases (show y=.bl b from hy);cases (show v=Value.bool b from ry);exact⟨.list_bool b p.isList (by omega),.list_bool b p.isList (by omega)⟩
   | int i=>cases (show y=.int i from hy);obtain⟨t',rfl⟩:=ry;exact⟨.list_int i t' p.isList (by omega),.list_int i t' p.isList (by omega)⟩
   | str z=>cases (show y=.str z from hy);obtain⟨t',rfl⟩:=ry;exact⟨.list_str z t' p.isList (by omega),.list_str z t' p.isList (by omega)⟩
   | tup es=>obtain⟨b,ws,rfl,q',r'⟩:=hy;cases ry;obtain⟨its',_,p',_⟩:=I.tuple q';exact⟨.list_tuple p.isList p' (by omega),.list_tuple p.isList p' (by omega)⟩
   | lst es =>
     have hy':=hy;obtain⟨b,ws,rfl,q',r'⟩:=hy;cases ry;obtain⟨its',fT,p',_⟩:=I.list q'
     have main:RcAt A s (.ref a) (.ref b) (eqD (.lst ds) (.lst es)):=by
      have l1:=r.length;have l2:=r'.length;have l3:=rv.length;have l4:=fT.length;have e1:its.toArray.size=ds.length:=by simp<;>omega
      have e2:its'.toArray.size=es.length:=by simp<;>omega
      simp only[eqD];by_cases hl:ds.length=es.length
      . have:=RcAt.lists (A:=A) p.isList p'.isList (by omega) (by omega) (u6 I (A:=A.in1) (by show A.units+1+deps ds<cLine;omega) r r' rv fT (eqDs_ok I ds) fun d h=>N6 h);rw[e1]at this;rw[M9 ds es hl];exact this
      . rw[Nv hl];exact RcAt.lists_lengths p.isList p'.isList (by simpa[e1,e2]using hl) (by omega)
     refine⟨main,?_⟩;by_cases hab:a=b
     . subst hab;have e3:D.lst ds=D.lst es:=Rep.inj I hx' hy';rw[e3,Fy];exact .same _
     . exact .of_refs hab main
theorem eqDs_ok(I:Inv X Ac σ H s)(ds:List D):∀d∈ds,EqD X H s d:=by
 cases ds with
 | nil=>exact fun _ h=>nomatch h
 | cons d0 r =>
   intro d h;rcases List.mem_cons.mp h with e | h
   . exact e▸fB I d0
   . exact eqDs_ok I r d h
end
def rEqD(K:W.Frag)(n:Nat):R2:=fun x y H Q=>∃d e,Rep K H x d/\Rep K H y e/\dep d<=n/\Q (.bl (eqD d e)) H
theorem sA{n:Nat}(hu:X.A.units+n<cLine):OpR X (compareOp .Eq) (rEqD X.K n):=by
 intro Ac s σ H x y v u Q I rx ry h;obtain⟨d,e,hd,he,hn,q⟩:=h;exact(fB I d X.A x y v u e (by omega) hd he rx ry).1 X.prog X.w X.xe _ ⟨.bl (eqD d e),H,I,rfl,q⟩
end
end L2
namespace L2
open PySem PySem.Spec PyProof.Rows PySem.SeqAt
section
variable{X:Cx}
def QA(X:Cx)(H:Hp)(d:D)(u:Value):Bool:=@decide (∃v e,RelV v u/\Rep X.K H v e/\eqD e d=true) (Classical.propDecidable _)
theorem NC{Ac:LAObj}{σ:St}{H:Hp}{s:Shared}(I:Inv X Ac σ H s){d e:D}{v:V}{u:Value}(r:RelV v u)(h:Rep X.K H v e):QA X H d u=eqD e d:=by
 cases q:eqD e d with
 | true=>exact @decide_eq_true _ (Classical.propDecidable _) ⟨v,e,r,h,q⟩
 | false =>
   refine @decide_eq_false _ (Classical.propDecidable _) ?_;rintro ⟨v',e',r',h',q'⟩;have:=r.inj r';subst this;rw[Rep.inj I h h']at q;rw[q]at q';cases q'
theorem aU{Ac:LAObj}{σ:St}{H:Hp}{s:Shared}(I:Inv X Ac σ H s){A:Around}{x:V}{v:Value}{d:D}{vs:List V}{us:List Value}{ds:List D}(hu:A.units+deps ds<cLine)(hx:Rep X.K H x d)(rx:RelV x v)
 (r:Reps X.K H vs ds) (rv:Vals vs us):∀y,y∈us.toArray->EqAt A s y v (QA X H d y):=by
 intro y hy;have hy':y∈us:=by simpa using hy
 obtain⟨i,hi⟩:=List.getElem?_of_mem hy';have hlt:i<us.length:=(List.getElem?_eq_some_iff.mp hi).1;have l1:=rv.length;obtain⟨w,hw⟩:∃w,vs[i]?=some w:=⟨vs[i]'(by omega),by simp<;>omega⟩
 obtain⟨u,xJ,ru⟩:=rv.get hw;rw[hi]at xJ;cases xJ;obtain⟨e,he,re⟩:=r.getV hw;rw[NC I ru re];have hm:e∈ds:=List.mem_of_getElem? he;exact(fB I e A w x y v d (by have:=N6 hm;omega) re hx ru rx).2
theorem AY{Ac:LAObj}{σ:St}{H:Hp}{s:Shared}(I:Inv X Ac σ H s){d:D}:∀{vs:List V}{us:List Value}{ds:List D},Reps X.K H vs ds->Vals vs us->us.any (QA X H d)=ds.any fun e=>eqD e d
 | vs,us,[],r,rv=>by
   cases (show vs=[] from r);cases rv;rfl
 | vs,us,e::ds,r,rv=>by
   obtain⟨v,q,rfl,h1,h2⟩:=r;cases rv with
   | cons r1 r2=>rw[List.any_cons,List.any_cons,NC I r1 h1,AY I h2 r2]
def wV(K:W.Frag)(H:Hp)(y:V)(ds:List D):Prop:=Rep K H y (.lst ds)\/Rep K H y (.tup ds)
def OT(K:W.Frag)(n:Nat)(neg:Bool):R2:=fun x y H Q=>∃d ds,Rep K H x d/\wV K H y ds/\deps ds+1<=n/\Q (.bl (if neg then !(ds.any fun e=>eqD e d) else ds.any fun e=>eqD e d)) H
theorem RZ{n:Nat}(hu:X.A.units+n<cLine):OpR X (compareOp .In) (OT X.K n false):=by
 intro Ac s σ H x y v u Q I rx ry h;obtain⟨d,ds,hx,hs,hn,q⟩:=h
 have fin:∀{us:List Value}{vs:List V},Reps X.K H vs ds->Vals vs us->EP X Ac σ Q (.bool (us.toArray.any (QA X H d))) s:=fun r rv =>
  ⟨.bl (ds.any fun e=>eqD e d),H,I,by show Value.bool _=Value.bool _;rw[List.any_toArray,AY I r rv],q⟩
 rcases hs with⟨a,vs,rfl,hq,r⟩|⟨a,vs,rfl,hq,r⟩
 . cases ry;obtain⟨its,rv,p,_⟩:=I.list hq;exact in_listAt (QA X H d) p.isList (aU I (A:=X.A.in1) (by show X.A.units+1+deps ds<cLine;omega) hx rx r rv) (fin r rv)
 . cases ry;obtain⟨its,rv,p,_⟩:=I.tuple hq;exact in_tupleAt (QA X H d) p (aU I (A:=X.A.in1) (by show X.A.units+1+deps ds<cLine;omega) hx rx r rv) (fin r rv)
theorem iF{n:Nat}(hu:X.A.units+n<cLine):OpR X (compareOp .NotIn) (OT X.K n true):=by
 intro Ac s σ H x y v u Q I rx ry h;obtain⟨d,ds,hx,hs,hn,q⟩:=h
 have fin:∀{us:List Value}{vs:List V},Reps X.K H vs ds->Vals vs us->EP X Ac σ Q (.bool (!us.toArray.any (QA X H d))) s:=fun r rv =>
  ⟨.bl (!(ds.any fun e=>eqD e d)),H,I,by show Value.bool _=Value.bool _;rw[List.any_toArray,AY I r rv],q⟩
 rcases hs with⟨a,vs,rfl,hq,r⟩|⟨a,vs,rfl,hq,r⟩
 . cases ry;obtain⟨its,rv,p,_⟩:=I.list hq;exact notIn_listAt (QA X H d) p.isList (aU I (A:=X.A.in1) (by show X.A.units+1+deps ds<cLine;omega) hx rx r rv) (fin r rv)
 . cases ry;obtain⟨its,rv,p,_⟩:=I.tuple hq;exact notIn_tupleAt (QA X H d) p (aU I (A:=X.A.in1) (by show X.A.units+1+deps ds<cLine;omega) hx rx r rv) (fin r rv)
def vB(K:W.Frag)(n:Nat):R2:=fun x y H Q=>∃d e,Rep K H x d/\Rep K H y e/\dep d<=n/\Q (.bl (!eqD d e)) H
theorem RY{n:Nat}(hu:X.A.units+n<cLine):OpR X (compareOp .NotEq) (vB X.K n):=by
 intro Ac s σ H x y v u Q I rx ry h;obtain⟨d,e,hd,he,hn,q⟩:=h;have fin:EP X Ac σ Q (.bool (!eqD d e)) s:=⟨.bl (!eqD d e),H,I,rfl,q⟩
 have go:∀{k:Bool},RcNeAt X.A s v u k->k=(!eqD d e)->wpAny (model X.prog X.w) X.A (compareOp .NotEq v u) (EP X Ac σ Q) X.xe s:=fun h1 h2=>by
  subst h2;exact h1 X.prog X.w X.xe _ fin
 cases d with
 | non =>
   cases (show x=.non from hd);cases (show v=Value.none from rx);cases e with
   | non=>cases (show y=.non from he);cases (show u=Value.none from ry);exact go .none_none rfl
   | bl b=>cases (show y=.bl b from he);cases (show u=Value.bool b from ry);exact go (.none_bool b) rfl
   | int i=>cases (show y=.int i from he);obtain⟨t,rfl⟩:=ry;exact go (.none_int i t) rfl
   | str z=>cases (show y=.str z from he);obtain⟨t,rfl⟩:=ry;exact go (.none_str z t) rfl
   | tup es=>obtain⟨a,vs,rfl,q,r⟩:=he;cases ry;obtain⟨its,_,p,_⟩:=I.tuple q;exact go (.none_tuple p (by omega)) rfl
   | lst es=>obtain⟨a,vs,rfl,q,r⟩:=he;cases ry;obtain⟨its,_,p,_⟩:=I.list q;exact go (.none_list p.isList (by omega)) rfl
 | bl c =>
   cases (show x=.bl c from hd);cases (show v=Value.bool c from rx);cases e with
   | non=>cases (show y=.non from he);cases (show u=Value.none from ry);exact go (.bool_none c) rfl
   | bl b=>cases (show y=.bl b from he);cases (show u=Value.bool b from ry);exact go (.bool_bool c b) rfl
   | int i=>cases (show y=.int i from he);obtain⟨t,rfl⟩:=ry;exact go (.bool_int c i t) rfl
   | str z=>cases (show y=.str z from he);obtain⟨t,rfl⟩:=ry;exact go (.bool_str c z t) rfl
   | tup es=>obtain⟨a,vs,rfl,q,r⟩:=he;cases ry;obtain⟨its,_,p,_⟩:=I.tuple q;exact go (.bool_tuple c p (by omega)) rfl
   | lst es=>obtain⟨a,vs,rfl,q,r⟩:=he;cases ry;obtain⟨its,_,p,_⟩:=I.list q;exact go (.bool_list c p.isList (by omega)) rfl
 | int c =>
   cases (show x=.int c from hd);obtain⟨t,rfl⟩:=rx;cases e with
   | non=>cases (show y=.non from he);cases (show u=Value.none from ry);exact go (.int_none c t) rfl
   | bl b=>cases (show y=.bl b from he);cases (show u=Value.bool b from ry);exact go (.int_bool c t b) rfl
   | int i=>cases (show y=.int i from he);obtain⟨t',rfl⟩:=ry;exact go (.int_int c t i t') rfl
   | str z=>cases (show y=.str z from he);obtain⟨t',rfl⟩:=ry;exact go (.int_str c t z t') rfl
   | tup es=>obtain⟨a,vs,rfl,q,r⟩:=he;cases ry;obtain⟨its,_,p,_⟩:=I.tuple q;exact go (.int_tuple c t p (by omega)) rfl
   | lst es=>obtain⟨a,vs,rfl,q,r⟩:=he;cases ry;obtain⟨its,_,p,_⟩:=I.list q;exact go (.int_list c t p.isList (by omega)) rfl
 | str c =>
   cases (show x=.str c from hd);obtain⟨t,rfl⟩:=rx;cases e with
   | non=>cases (show y=.non from he);cases (show u=Value.none from ry);exact go (.str_none c t) rfl
   | bl b=>cases (show y=.bl b from he);cases (show u=Value.bool b from ry);exact go (.str_bool c t b) rfl
   | int i=>cases (show y=.int i from he);obtain⟨t',rfl⟩:=ry;exact go (.str_int c t i t') rfl
   | str z=>cases (show y=.str z from he);obtain⟨t',rfl⟩:=ry;exact go (.str_str c t z t') rfl
   | tup es=>obtain⟨a,vs,rfl,q,r⟩:=he;cases ry;obtain⟨its,_,p,_⟩:=I.tuple q;exact go (.str_tuple c t p (by omega)) rfl
   | lst es=>obtain⟨a,vs,rfl,q,r⟩:=he;cases ry;obtain⟨its,_,p,_⟩:=I.list q;exact go (.str_list c t p.isList (by omega)) rfl
 | tup ds =>
   obtain⟨a,vs,rfl,q1,r⟩:=hd;cases rx;obtain⟨its,rv,p,_⟩:=I.tuple q1;have ZG:X.A.units+1+deps ds<cLine:=by simp only[dep]at hn;omega
   cases e with
   | non=>cases (show y=.non from he);cases (show u=Value.none from ry);exact go (.tuple_none p (by omega)) rfl
   | bl b=>cases (show y=.bl b from he);cases (show u=Value.bool b from ry);exact go (.tuple_bool b p (by omega)) rfl
   | int i=>cases (show y=.int i from he);obtain⟨t',rfl⟩:=ry;exact go (.tuple_int i t' p (by omega)) rfl
   | str z=>cases (show y=.str z from he);obtain⟨t',rfl⟩:=ry;exact go (.tuple_str z t' p (by omega)) rfl
   | lst es=>obtain⟨b,ws,rfl,q',r'⟩:=he;cases ry;obtain⟨its',_,p',_⟩:=I.list q';exact go (.tuple_list p p'.isList (by omega)) rfl
   | tup es =>
     obtain⟨b,ws,rfl,q',r'⟩:=he;cases ry;obtain⟨its',fT,p',_⟩:=I.tuple q';refine go (RcNeAt.tuples p p' (by omega) (u6 I (A:=X.A.in1) (by show X.A.units+1+deps ds<cLine;omega) r r' rv fT (eqDs_ok I ds) fun d h=>N6 h)) ?_;have l1:=r.length;have l2:=r'.length;have l3:=rv.length;have l4:=fT.length;have e1:its.toArray.size=ds.length:=by simp<;>omega
     have e2:its'.toArray.size=es.length:=by simp<;>omega
     rw[e1,e2];simp only[eqD];by_cases hl:ds.length=es.length
     . rw[M9 ds es hl,←hl,Nat.min_self];simp
     . rw[Nv hl];have z:(ds.length==es.length)=false:=by simpa using hl
       rw[z,Bool.and_false]
 | lst ds =>
   obtain⟨a,vs,rfl,q1,r⟩:=hd;cases rx;obtain⟨its,rv,p,_⟩:=I.list q1;have ZG:X.A.units+1+deps ds<cLine:=by simp only[dep]at hn;omega
   cases e with
   | non=>cases (show y=.non from he);cases (show u=Value.none from ry);exact go (.list_none p.isList (by omega)) rfl
   | bl b=>cases (show y=.bl b from he);cases (show u=Value.bool b from ry);exact go (.list_bool b p.isList (by omega)) rfl
   | int i=>cases (show y=.int i from he);obtain⟨t',rfl⟩:=ry;exact go (.list_int i t' p.isList (by omega)) rfl
   | str z=>cases (show y=.str z from he);obtain⟨t',rfl⟩:=ry;exact go (.list_str z t' p.isList (by omega)) rfl
   | tup es=>obtain⟨b,ws,rfl,q',r'⟩:=he;cases ry;obtain⟨its',_,p',_⟩:=I.tuple q';exact go (.list_tuple p.isList p' (by omega)) rfl
   | lst es =>
     obtain⟨b,ws,rfl,q',r'⟩:=he;cases ry;obtain⟨its',fT,p',_⟩:=I.list q';have l1:=r.length;have l2:=r'.length;have l3:=rv.length;have l4:=fT.length;have e1:its.toArray.size=ds.length:=by simp<;>omega
     have e2:its'.toArray.size=es.length:=by simp<;>omega
     by_cases hl:ds.length=es.length
     . refine go (RcNeAt.lists p.isList p'.isList (by omega) (by omega) (u6 I (A:=X.A.in1) (by show X.A.units+1+deps ds<cLine;omega) r r' rv fT (eqDs_ok I ds) fun d h=>N6 h)) ?_;rw[e1];simp only[eqD];rw[M9 ds es hl]
     . refine go (RcNeAt.lists_lengths p.isList p'.isList (by simpa[e1,e2]using hl) (by omega)) ?_;simp only[eqD];rw[Nv hl];rfl
def U7(n:String):D->Bool
 | .non=>false
 | .bl _=>n=="int" || n=="bool"
 | .int _=>n=="int"
 | .str _=>n=="str"
 | .tup _=>n=="tuple"
 | .lst _=>n=="list"
def tyD:D->String
 | .non=>"NoneType"
 | .bl _=>"bool"
 | .int _=>"int"
 | .str _=>"str"
 | .tup _=>"tuple"
 | .lst _=>"list"
theorem MM{K:W.Frag}{n:String}{d:D}(hn:n="int"\/n="bool"\/n="str"\/n="tuple"\/n="list"\/n="dict"):PySem.W.kitOne K (.type (tyD d)) (.type n)=some (U7 n d):=by
 rcases hn with rfl | rfl | rfl | rfl | rfl | rfl<;>cases d<;>(unfold PySem.W.kitOne PySem.W.kitCls PySem.W.subIn tyD U7;first | rfl | decide +kernel)
theorem Nh:Ei X (.builtin "isinstance") (fun xs H Q=>∃x n d,xs=[x,.ty n]/\(n="int"\/n="bool"\/n="str"\/n="tuple"\/n="list"\/n="dict")/\Rep X.K H x d/\Q (.bl (U7 n d)) H):=by
 intro Ac s σ H xs us Q I r h;obtain⟨x,n,d,rfl,hn,hx,q⟩:=h;obtain⟨u,v,rfl,rx,rt⟩:=b6 r;cases rt;have k:=MM (K:=X.K) (d:=d) hn;have fin:∀tk,EP X Ac σ Q (.bool (U7 n d)) { s with toks:=tk }:=fun tk=>⟨.bl (U7 n d),H,I.tok tk,rfl,q⟩
 cases d with
 | non=>cases (show x=.non from hx);cases (show u=Value.none from rx);exact PySem.W.kia_one PySem.W.kitx_none I.kIn True.intro k (fun z=>nomatch z) fin
 | bl b=>cases (show x=.bl b from hx);cases (show u=Value.bool b from rx);exact PySem.W.kia_one PySem.W.kitx_bool I.kIn True.intro k (fun z=>nomatch z) fin
 | int b=>cases (show x=.int b from hx);obtain⟨t,rfl⟩:=rx;exact PySem.W.kia_one PySem.W.kitx_int I.kIn True.intro k (fun z=>nomatch z) fin
 | str b=>cases (show x=.str b from hx);obtain⟨t,rfl⟩:=rx;exact PySem.W.kia_one PySem.W.kitx_str I.kIn True.intro k (fun z=>nomatch z) fin
 | tup ds =>
   obtain⟨a,vs,rfl,hq,_⟩:=hx;cases rx;obtain⟨its,_,⟨o,e,c,_⟩,_⟩:=I.tuple hq;exact PySem.W.kia_one PySem.W.kitx_tuple I.kIn ⟨o,e,c⟩ k (fun z=>nomatch z) fin
 | lst ds =>
   obtain⟨a,vs,rfl,hq,_⟩:=hx;cases rx;obtain⟨its,_,⟨o,_,e,c,_⟩,_⟩:=I.list hq;exact PySem.W.kia_one PySem.W.kitx_list I.kIn ⟨o,e,c⟩ k (fun z=>nomatch z) fin
def QL(K:W.Frag):R2:=fun x y H Q=>∃a b xs ys,x=.ref a/\y=.ref b/\Dw K H a xs/\Dw K H b ys/\xs.length+ys.length<=sizeLine/\∀p H',Same H H'->Dw K H' p (xs++ys)->Q (.ref p) H'
theorem PF:OpR X (binaryOp .Add) (QL X.K):=by
 intro Ac s σ H x y v u Q I rx ry h;obtain⟨a,b,xs,ys,rfl,rfl,ha,hb,hz,q⟩:=h;by_cases hx:xs=[]
 . subst hx;cases rx;cases ry;obtain⟨its,r1,p1,_⟩:=I.tuple ha;obtain⟨its2,r2,p2,_⟩:=I.tuple hb;cases r1;obtain⟨⟨cls,dd,data,sl⟩,ho,hc,n,hd⟩:=id p1;obtain⟨⟨WS,dd2,data2,sl2⟩,ho2,hc2,n2,hd2⟩:=id p2;simp only at hc hd hc2 hd2;subst hc hd hc2 hd2
   exact concat_meets ⟨_,ho,rfl⟩ ⟨_,ho2,rfl⟩ noFill_tuple_add seq_tuple_add PySem.F.slot_tuple_add PySem.F.entry_tuple_add (PySem.F.args_tuple_add_2 _ _)
    (tuple_addW0 a b _ _ n n2 dd dd2 sl sl2 (by simp)) ⟨ho,ho2,⟨.ref b,H,I,rfl,q b H (Same.refl H) (by simpa using hb)⟩⟩
 . refine pG Ac s σ H (.ref a) (.ref b) v u Q I rx ry ⟨a,b,xs,ys,rfl,rfl,ha,hb,hx,hz,fun e=>?_,fun e p hp=>?_⟩
   . subst e;exact q a H (Same.refl H) (by simpa using ha)
   . exact q p _ (Same.new hp) (.of Ad)
def qL(K:W.Frag):V->Option Int->Option Int->Hp->VK->Prop:=fun x lo hi H Q=>∃a xs,x=.ref a/\Dw K H a xs ∧
 ¬(HT.sIx xs.length 0 lo=0/\HT.sIx xs.length xs.length hi=xs.length)/\∀p H',Same H H'->Dw K H' p (Ta xs lo hi)->Q (.ref p) H'
theorem oQ:uM X (qL X.K):=by
 intro Ac s σ H x v vl vu lo hi sl Q I rx hs pl pu h;obtain⟨a,xs,rfl,hx,hw,q⟩:=h;exact rN Ac s σ H (.ref a) v vl vu lo hi sl Q I rx hs pl pu ⟨a,xs,rfl,hx,hw,fun p hp=>q p _ (Same.new hp) (.of Ad)⟩
def lB(K:W.Frag):R2:=fun x y H Q=>∃l b xs zs,x=.ref l/\y=.ref b/\SqL K H l xs/\SqL K H b zs/\xs.length+zs.length<=sizeLine/\∀p,H p=none->Q (.ref p) (upd H p (.lst (xs++zs)))
theorem lR:OpR X (binaryOp .Add) (lB X.K):=by
 intro Ac s σ H x y v u Q I rx ry h;obtain⟨l,b,xs,zs,rfl,rfl,hl,hb,hz,q⟩:=h;cases rx;cases ry;obtain⟨its,r1,p1,_⟩:=I.list hl;obtain⟨its2,r2,p2,_⟩:=I.list hb;obtain⟨⟨cls,dd,data,sl⟩,n,ho,hc,zO,hd⟩:=id p1;obtain⟨⟨WS,dd2,data2,sl2⟩,n2,ho2,hc2,hdd2,hd2⟩:=id p2;simp only at hc hd hc2 hd2;subst hc hd hc2 hd2
 refine concat_meets ⟨_,ho,rfl⟩ ⟨_,ho2,rfl⟩ noFill_list_add seq_list_add PySem.F.slot_list_add PySem.F.entry_list_add (PySem.F.args_list_add_2 _ _)
  (list_addW l b its.toArray its2.toArray n n2 dd dd2 sl sl2 (by rw[List.size_toArray,List.size_toArray,←r1.length,←r2.length];exact hz)) ⟨ho,ho2,?_⟩
 rw[show its.toArray++its2.toArray=(its++its2).toArray by simp];exact⟨.ref s.heap.objs.size,_,I.lnew (t':=s.toks) (r1.append r2) (by rw[List.length_append];exact hz),rfl,q _ I.fresh⟩
theorem jX(hc:X.calm=true):Ei X (.builtin "all") (fun xs H Q=>∃(p:Addr) (bs:List Bool),xs=[.ref p]/\SqL X.K H p (bs.map V.bl)/\Q (.bl (bs.all id)) H):=by
 intro Ac s σ H xs us Q I r h;obtain⟨p,bs,rfl,hq,q⟩:=h;obtain⟨u,rfl,ru⟩:=Md r;cases ru;obtain⟨its,rv,pl,hz⟩:=I.list hq;have hh:X.A.handled=none:=I.ok.hd hc
 have rel:∀(i:Nat) (v:Value),its.toArray[i]?=some v->∃b,bs[i]?=some b/\v=.bool b:=fun i v e=>by
  have e':its[i]?=some v:=by simpa using e
  have hlt:i<its.length:=(List.getElem?_eq_some_iff.mp e').1;have l1:=rv.length;rw[List.length_map]at l1;have hb:bs[i]?=some (bs[i]'(by omega)):=by simp<;>omega
  obtain⟨u,hu,ru⟩:=rv.get (i:=i) (x:=V.bl (bs[i]'(by omega))) (by rw[List.getElem?_map,hb];rfl);rw[e']at hu;cases hu;exact⟨_,hb,ru⟩
 refine call_all_walk (wpAny_pyIter_list pl.isList ?_);refine⟨s.heap.objs.size,[s.heap.objs.size,p],[s.heap.objs.size],its.toArray.size,_,_,fun i=>(bs[i]?).getD true,rfl,Walks.list (show X.A.in1.handled=none from hh) s.heap.objs.size p ?_ its.toArray,⟨⟨_,Heap.get?_push_size _ rfl,rfl,rfl⟩,?_⟩,?_,fun h' tk k=>?_⟩
 . obtain⟨o,_,ho,_⟩:=pl;exact Nat.ne_of_lt (Heap.lt_size ho)
 . exact pl.isList.at fun o e=>Heap.get?_push_of_some _ e
 . intro i v s' Q' E' hv hQ;obtain⟨b,hb,rfl⟩:=rel i v hv;dsimp only at hQ;rw[hb]at hQ;exact wpAny_truthy_bool hQ
 . have e:(List.range its.toArray.size).all (fun i=>(bs[i]?).getD true)=bs.all id:=by
    have l1:=rv.length;rw[List.length_map]at l1;rw[List.size_toArray,←l1];rw[Bool.eq_iff_iff,List.all_eq_true,List.all_eq_true];constructor
    . intro hx b hb;obtain⟨i,hi⟩:=List.getElem?_of_mem hb;have:=hx i (List.mem_range.mpr (List.getElem?_eq_some_iff.mp hi).1);rw[hi]at this;exact this
    . intro hx i hi;have hlt:=List.mem_range.mp hi;have hb:bs[i]?=some bs[i]:=by simp
      rw[hb];exact hx _ (List.getElem_mem _)
   rw[e];have I1:Inv X Ac σ H { s with heap:=h',toks:=tk }:=I.kept (fun b o e=>k b o (by simp;exact Nat.ne_of_lt (Heap.lt_size e)) (Heap.get?_push_of_some _ e));exact⟨.bl (bs.all id),H,I1,rfl,q⟩
end
structure Has(P:Program)(w:World)(K:W.Frag)(mg:Str->Option Value)(base:Heap)(x:Str)(ps:List Str)(k:Nat)(sp:Sp):Prop where
 ex:∃(f:Addr) (fd:FuncData),mg x=some (.ref f)/\W.keepIn K (.ref f)=true/\Ey K fd ps []/\Bj P w K mg base Er k f fd ps sp
section
variable{X:Cx}{x:Str}{ps:List Str}{j k:Nat}{sp:Sp}{p pos:Pos}{e:Expr}{es:List Expr}{t:TA}
theorem Ao(h:Has X.prog X.w X.K X.mg X.base x ps j sp)(hr:Di k X.A)(ha:PA X (e::es) t)(hg:Gl X x:=by rfl)(hk:j<=k:=by decide)(hdb:(x==("__debug__":Str))=false:=by decide)
 (he:starEach (e::es) X.env=(false,eval e X.env)::starEach es X.env:=by rfl) (hpl:(backTo pos (starEach es X.env)).any (·.1)=false:=by rfl):PE X (.Call (.Name x p) (e::es) [] pos) (tCall sp [] E0 t):=by
 obtain⟨f,fd,h1,h2,h3,h4⟩:=h.ex;exact pC h4 (hr.mono hk) hg h1 h2 h3 .nil BP ha hdb he hpl
end
theorem boot_intT:bootBuiltins "int"=some (.type "int"):=by decide +kernel
theorem Xy:bootBuiltins "bool"=some (.type "bool"):=by decide +kernel
theorem Ew:bootBuiltins "tuple"=some (.type "tuple"):=by decide +kernel
theorem Pw:bootBuiltins "list"=some (.type "list"):=by decide +kernel
theorem Fn:bootBuiltins "dict"=some (.type "dict"):=by decide +kernel
theorem Fm:bootBuiltins "max"=some (.builtin "max"):=by decide +kernel
theorem j8:bootBuiltins "all"=some (.builtin "all"):=by decide +kernel
theorem Bo:bootBuiltins "isinstance"=some (.builtin "isinstance"):=by decide +kernel
end L2
namespace L2
open PySem PySem.Spec PyProof.Rows
section
variable{X:Cx}{K:W.Frag}{tg l:Expr}{tl:TE}{n:Nat}
theorem ML(hK:X.K=K:=by rfl):OpR X (binaryOp .Add) (QL K):=by subst hK;exact PF
theorem Sm(hK:X.K=K:=by rfl):OpR X (binaryOp .Add) (lB K):=by subst hK;exact lR
theorem mL(hK:X.K=K:=by rfl):uM X (qL K):=by subst hK;exact oQ
theorem cA(hK:X.K=K:=by rfl):uM X (vA K):=by subst hK;exact oR
theorem A2(hK:X.K=K:=by rfl):wX X (VB K):=by subst hK;exact PR
theorem Be(hK:X.K=K:=by rfl):wX X (rQ K):=by subst hK;exact sS
theorem An(hK:X.K=K:=by rfl):Ei X (.builtin "len") (fun xs H Q=>∃p ys,xs=[.ref p]/\(SqL K H p ys\/Dw K H p ys)/\Q (.int ys.length) H):=by subst hK;exact aY
theorem Oq(hK:X.K=K:=by rfl):Ei X (.type "list") (fun xs H Q=>∃p ys,xs=[.ref p]/\(SqL K H p ys\/Dw K H p ys)/\∀l,H l=none->Q (.ref l) (upd H l (.lst ys))):=by subst hK;exact AX
theorem Hh(hK:X.K=K:=by rfl):Ei X (.type "tuple") (fun xs H Q=>∃p ys,xs=[.ref p]/\((SqL K H p ys/\∀l,H l=none->Q (.ref l) (upd H l (.tup ys)))\/(Dw K H p ys/\Q (.ref p) H))):=by subst hK;exact Z0
theorem Ed(hK:X.K=K:=by rfl):Ei X (.builtin "isinstance") (fun xs H Q=>∃x n d,xs=[x,.ty n]/\(n="int"\/n="bool"\/n="str"\/n="tuple"\/n="list"\/n="dict")/\Rep K H x d/\Q (.bl (U7 n d)) H):=by subst hK;exact Nh
theorem Wr(hc:X.calm=true)(hK:X.K=K:=by rfl):Ei X (.builtin "all") (fun xs H Q=>∃(p:Addr) (bs:List Bool),xs=[.ref p]/\SqL K H p (bs.map V.bl)/\Q (.bl (bs.all id)) H):=by subst hK;exact jX hc
theorem gE(hu:X.A.units+n<cLine)(hK:X.K=K:=by rfl):OpR X (compareOp .In) (OT K n false):=by subst hK;exact RZ hu
theorem Pf(hu:X.A.units+n<cLine)(hK:X.K=K:=by rfl):OpR X (compareOp .NotIn) (OT K n true):=by subst hK;exact iF hu
theorem pP(hu:X.A.units+n<cLine)(hK:X.K=K:=by rfl):OpR X (compareOp .Eq) (rEqD K n):=by subst hK;exact sA hu
theorem AE(hu:X.A.units+n<cLine)(hK:X.K=K:=by rfl):OpR X (compareOp .NotEq) (vB K n):=by subst hK;exact RY hu
theorem Hf(hl:PE X l tl)(hK:X.K=K:=by rfl):PI X tg l (qS K tl):=by subst hK;exact OX hl
theorem Ql(hl:PE X l tl)(hK:X.K=K:=by rfl):PI X tg l (VS K tl):=by subst hK;exact rW hl
variable{o e:Expr}{es:List Expr}{to:TE}{t:TA}{name:Str}{apos cpos:Pos}{T id:String}{r:V->List V->Hp->VK->Prop}
theorem Sl(pa:PlainAttrs T)(slot:Slot T name id)(hty:typeOf (.builtin id)=pure (.type "method_descriptor"))(hm:yC X id r)(ho:PE X o to)(ha:PA X (e::es) t)(hK:X.K=K:=by rfl)
 (hbase:attributeBase o name X.env (eval o X.env)=eval o X.env:=by rfl)
 (hfew:((backTo cpos (starEach (e::es) X.env)).all (fun x=>!x.1)&&(backToKw cpos (keywordEach [] X.env)).all (fun x=>x.1.isSome)
   && decide ((e::es).length+([]:List Keyword).length+(if ([]:List Keyword).isEmpty then 0 else 1)<30))=true:=by rfl)
 (hline:(apos.endLine==cpos.line)=true:=by rfl) (hs:starEach (e::es) X.env=(false,eval e X.env)::starEach es X.env:=by rfl) (hplain:(backTo cpos (starEach es X.env)).any (·.1)=false:=by rfl) :
 PE X (.Call (.Attribute o name apos) (e::es) [] cpos) (tBM K T r to t):=by subst hK;exact VE pa slot hty hm ho ha hbase hfew hline hs hplain
theorem El{es:List Expr}{k:Nat}{t:QZ}{n:Nat}{pos:Pos}(hc:X.calm=true)(h:wW X es t)(hK:X.K=K:=by rfl)
 (hn:(assignEach es X.env).length=n:=by rfl) (hst:(assignEach es X.env).findIdx? (·.1)=none:=by rfl):PG X (.Tuple es k pos) (wJ K n t):=by subst hK;exact RW hc h hn hst
end
def cV(f:Obj->Obj):Prop:=∀o,(f o).dict=o.dict/\(o.isFreed=false->(f o).isFreed=false)
def A8{α:Type}:Sem α->Prop
 | .pure _=>True
 | .raise _=>True
 | .unsupported _=>True
 | .finish _=>True
 | .rule _ k=>A8 (k ())
 | .at _ k=>A8 (k ())
 | .load _ _ k=>∀o,A8 (k o)
 | .update _ _ f k=>cV f/\A8 (k ())
 | .alloc _ k=>∀a,A8 (k a)
 | .loadIfAlive _ k=>∀o,A8 (k o)
 | .point _ k=>A8 (k ())
 | .register _ _=>True
 | .fresh k=>∀t,A8 (k t)
 | .ask k=>∀x,A8 (k x)
 | .choose _ _ k=>∀n,A8 (k n)
 | .os _ _ k=>∀r,A8 (k r)
 | .call _ _ _ _ _=>False
 | .handled _ k=>∀v,A8 (k v)
 | .newGen _ k=>∀n,A8 (k n)
 | .genState _ k=>∀x,A8 (k x)
 | .resume _ _ _ _=>False
 | .yield _ _ _ _=>True
 | .stack k=>∀x,A8 (k x)
 | .fork _ _=>True
 | .thread k=>∀x,A8 (k x)
 | .await _ _ _ _ _=>True
theorem A8.bind{α β:Type}{m:Sem α}{k:α->Sem β}(h:A8 m)(hk:∀a,A8 (k a)):A8 (m>>=k):=by
 show A8 (Sem.bind m k)
 induction m with
 | pure a=>exact hk a
 | rule t c ih=>exact ih () h
 | «at» p c ih=>exact ih () h
 | load a p c ih=>exact fun o=>ih o (h o)
 | update a p f c ih=>exact⟨h.1,ih () h.2⟩
 | alloc o c ih=>exact fun a=>ih a (h a)
 | loadIfAlive a c ih=>exact fun o=>ih o (h o)
 | point l c ih=>exact ih () h
 | fresh c ih=>exact fun o=>ih o (h o)
 | ask c ih=>exact fun o=>ih o (h o)
 | choose s n c ih=>exact fun o=>ih o (h o)
 | os r l c ih=>exact fun o=>ih o (h o)
 | handled o c ih=>exact fun o=>ih o (h o)
 | newGen g c ih=>exact fun o=>ih o (h o)
 | genState g c ih=>exact fun o=>ih o (h o)
 | stack c ih=>exact fun o=>ih o (h o)
 | thread c ih=>exact fun o=>ih o (h o)
 | call c a b d e=>exact False.elim h
 | resume a b c d=>exact False.elim h
 | _=>trivial
def Dy(h h':Heap):Prop:=∀b o,h.get? b=some o->∃o',h'.get? b=some o'/\o'.dict=o.dict
theorem Dy.refl(h:Heap):Dy h h:=fun _ o e=>⟨o,e,rfl⟩
theorem Dy.trans{h h1 h2:Heap}(x:Dy h h1)(y:Dy h1 h2):Dy h h2:=fun b o e=>by
 obtain⟨o1,e1,d1⟩:=x b o e;obtain⟨o2,e2,d2⟩:=y b o1 e1;exact⟨o2,e2,d2.trans d1⟩
theorem Dy.push(h:Heap)(o:Obj):Dy h (h.push o):=fun b o' e=>⟨o',Heap.get?_push_of_some o e,rfl⟩
theorem Dy.update{h:Heap}{a:Addr}{f:Obj->Obj}(g:cV f):Dy h (h.update a f):=fun b o e=>by
 by_cases z:a=b
 . subst z;exact⟨f o,Heap.get?_update_self f e ((g o).2 (Heap.get?_some_iff.mp e).2),(g o).1⟩
 . exact⟨o,by rw[Heap.get?_update_other _ _ z];exact e,rfl⟩
theorem GZ{α:Type}{M:Model}{Γ:PySem.Ctx}{Q:α->Pos->Shared->Prop}{E:Value->Pos->Shared->Prop}{t:Sem α}(hk:A8 t):∀(p:Pos) (s:Shared),Sem.wp M Γ t Q E p s →
 Sem.wp M Γ t (fun a p' s'=>Q a p' s'/\Dy s.heap s'.heap) (fun e p' s'=>E e p' s'/\Dy s.heap s'.heap) p s:=by
 induction t with
 | pure a=>intro p s h;exact⟨h,Dy.refl _⟩
 | raise e=>intro p s h;exact⟨h,Dy.refl _⟩
 | unsupported w=>intro p s h;exact h
 | finish e=>intro p s h;exact h
 | rule g k ih=>intro p s h;exact ih () hk _ _ h
 | «at» p' k ih=>intro p s h;exact ih () hk _ _ h
 | load a q k ih=>intro p s h;obtain⟨o,e,h⟩:=h;exact⟨o,e,ih o (hk o) _ _ h⟩
 | update a q f k ih =>
   intro p s h;obtain⟨e,h⟩:=h;refine⟨e,?_⟩;have:=ih () hk.2 _ _ h;exact wp_tr this (Dy.update hk.1)
 | alloc o k ih=>intro p s h;exact wp_tr (ih _ (hk _) _ _ h) (Dy.push _ _)
 | loadIfAlive a k ih=>intro p s h;exact ih _ (hk _) _ _ h
 | point l k ih=>intro p s h;exact ih () hk _ _ h
 | register a k ih=>intro p s h;exact h
 | fresh k ih=>intro p s h;exact ih _ (hk _) _ _ h
 | ask k ih=>intro p s h;exact ih _ (hk _) _ _ h
 | choose c n k ih=>intro p s h;exact⟨h.1,ih _ (hk _) _ _ h.2⟩
 | os r l k ih=>intro p s h;exact ih _ (hk _) _ _ h
 | call c a b d k ih=>exact False.elim hk
 | handled o k ih=>intro p s h;exact ih _ (hk _) _ _ h
 | newGen c k ih=>intro p s h;exact ih _ (hk _) _ _ h
 | genState g k ih=>intro p s h;obtain⟨x,e,h⟩:=h;exact⟨x,e,ih _ (hk _) _ _ h⟩
 | resume a b c k ih=>exact False.elim hk
 | yield a b c k ih=>intro p s h;exact h
 | stack k ih=>intro p s h;exact ih _ (hk _) _ _ h
 | fork c k ih=>intro p s h;exact h
 | thread k ih=>intro p s h;exact ih _ (hk _) _ _ h
 | await a b c d k ih=>intro p s h;exact h
where
 wp_tr {α:Type}{M:Model}{Γ:PySem.Ctx}{Q:α->Pos->Shared->Prop}{E:Value->Pos->Shared->Prop}{t:Sem α}{p:Pos}{s:Shared}{h h1:Heap}
  (x:Sem.wp M Γ t (fun a p' s'=>Q a p' s'/\Dy h1 s'.heap) (fun e p' s'=>E e p' s'/\Dy h1 s'.heap) p s) (y:Dy h h1) :
  Sem.wp M Γ t (fun a p' s'=>Q a p' s'/\Dy h s'.heap) (fun e p' s'=>E e p' s'/\Dy h s'.heap) p s :=
  Sem.wp_mono _ _ _ (fun _ _ _ z=>⟨z.1,y.trans z.2⟩) (fun _ _ _ z=>⟨z.1,y.trans z.2⟩) _ _ x
theorem Db{α:Type}{M:Model}{A:Around}{Q:α->Shared->Prop}{E:Value->Shared->Prop}{t:Sem α}{s:Shared}(hk:A8 t)(h:wpAny M A t Q E s) :
 wpAny M A t (fun a s'=>Q a s'/\Dy s.heap s'.heap) (fun e s'=>E e s'/\Dy s.heap s'.heap) s:=fun Γ p hi=>GZ hk _ _ (h Γ p hi)
theorem B1{α:Type}(a:α):A8 (pure a:Sem α):=True.intro
theorem Op{α:Type}(w:String):A8 (unsupported w:Sem α):=True.intro
theorem AF(a:Addr):A8 (load a):=fun _=>True.intro
theorem d6(a:Addr){f:Obj->Obj}(h:cV f):A8 (update a f):=⟨h,True.intro⟩
theorem CB(o:Obj):A8 (alloc o):=fun _=>True.intro
theorem Wq:A8 stack:=fun _=>True.intro
theorem AM(g:Array Value->Array Value):cV (Obj.mapFields g):=fun o=>by
 obtain⟨c,d,da,sl⟩:=o;cases da<;>exact⟨rfl,fun h=>h⟩
theorem cE(g:Obj->Bd):cV (fun o=>{ o with slots:=g o }):=fun o=>⟨rfl,fun h=>by
 obtain⟨c,d,da,sl⟩:=o;cases da<;>exact h⟩
theorem Wp(a:Addr)(i:Nat)(v:Value):A8 (updateField a i v):=by
 unfold updateField;refine(AF a).bind fun o=>?_;split
 . split
   . exact d6 a (AM _)
   . exact Op _
 . exact Op _
theorem M3(v:Value)(i:Nat)(x:Value):A8 (setField v i x):=by
 unfold setField;split
 . exact Wp _ _ _
 . exact Op _
theorem cB(v:Value):A8 (fieldsOf v):=by
 unfold fieldsOf;split
 . refine(AF _).bind fun o=>?_;split
   . exact B1 _
   . exact Op _
 . exact Op _
theorem Qn(v:Value)(i:Nat):A8 (field v i):=by
 unfold field;refine(cB v).bind fun vs=>?_;split
 . exact B1 _
 . exact Op _
theorem Gg(e:Value)(fr:OAddr):A8 (setFlight e fr):=by
 unfold setFlight;refine(Qn e 1).bind fun tb=>?_;split
 . exact M3 _ _ _
 . exact B1 _
theorem aF(ty:String)(vs:List Value):A8 (newFields ty vs):=by
 unfold newFields newObj;dsimp only;split
 . exact(Op _).bind fun _=>(CB _).bind fun _=>B1 _
 . exact(CB _).bind fun _=>B1 _
theorem Uo(f:Addr)(b:Bool):A8 (entryPlaceOf f b):=by
 unfold entryPlaceOf;refine Wq.bind fun acts=>?_;split
 . exact B1 _
 . exact B1 _
theorem aG:A8 frameEnvs:=by
 unfold frameEnvs;exact Wq.bind fun _=>B1 _
theorem iZ(env:Env)(outer:List Env):A8 (behindIsImport env outer):=by
 unfold behindIsImport;split
 . exact B1 _
 . split
   . exact B1 _
   . exact(Qn _ _).bind fun _=>B1 _
theorem IY:A8 underTheClaimsCaller:=by
 unfold underTheClaimsCaller;exact Wq.bind fun _=>B1 _
theorem CA(env:Env)(i:Bool)(outer:List Env):A8 (keptBack env i outer):=by
 cases outer with
 | nil =>
   rw[keptBack];by_cases z:(env.scope.isGenerator || env.scope.isCoroutine)=true
   . rw[if_pos z];exact B1 _
   . rw[if_neg z];exact IY.bind fun _=>B1 _
 | cons c r=>exact B1 _
theorem M4:∀l:List Env,A8 (readyFrames l)
 | []=>B1 _
 | env::outer=>by
   unfold readyFrames;split
   . refine(AF _).bind fun o=>?_;split
     . exact B1 _
     . refine(iZ _ _).bind fun b=>(CA _ _ _).bind fun v=>(d6 _ (cE _)).bind fun _=>M4 outer
   . exact Op _
theorem ET(env:Env):A8 (PySem.frameOf env):=by
 unfold PySem.frameOf;refine aG.bind fun es=>?_;refine A8.bind ?_ fun o=>?_
 . generalize es.dropWhile _=l;cases l with
   | nil=>exact B1 _
   | cons x r=>exact(M4 _).bind fun _=>B1 _
 . split
   . exact B1 _
   . exact Op _
theorem Qm(e:Value)(env:Env):A8 (noteFrame e env):=by
 unfold noteFrame;cases env.frame with
 | none=>exact Op _
 | some f =>
   have tail:∀head:Value,A8 (do let a ←PySem.frameOf env;let pl ←entryPlaceOf f (head != .none);let b ←EntryCells.newEntry head a .none (rawInt f) .none pl;setField e 1 b):=fun head =>
    A8.bind (ET env) fun a=>A8.bind (Uo f _) fun pl=>A8.bind (aF _ _) fun b=>M3 _ _ _
   refine(Qn e 1).bind fun head=>?_;by_cases z:(head != Value.none)=true
   . rw[if_pos z];refine(Qn head 3).bind fun x=>?_;by_cases y:(x==rawInt f)=true
     . rw[if_pos y];exact B1 _
     . rw[if_neg y];refine(M3 _ _ _).bind fun _=>?_;exact tail head
   . rw[if_neg z];exact tail head
theorem Pg(env:Env)(e:Value):A8 (leaving env e):=by
 unfold leaving;exact(Qm e env).bind fun _=>Gg e none
theorem ObjOk.ob{P:Program}{w:World}{H:Hp}{h:Heap}{a:Addr}{o:HO}(x:ObjOk P w H h a o):∃u,h.get? a=some u:=by
 cases o with
 | lst xs=>obtain⟨_,_,_,_,e⟩:=x;exact⟨_,e⟩
 | tup xs=>obtain⟨_,_,_,ob,e,_⟩:=x;exact⟨_,e⟩
 | dK kvs=>obtain⟨_,_,_,_,ob,_,_,e,_⟩:=x;exact⟨_,e⟩
 | dT kvs=>obtain⟨_,_,_,_,ob,_,_,e,_⟩:=x;exact⟨_,e⟩
 | set S n=>obtain⟨ob,_,_,_,e,_⟩:=x;exact⟨_,e⟩
 | ins C dx fs=>obtain⟨_,_,_,e,_⟩:=x;exact⟨_,e⟩
 | own y=>exact x
 | xd fs=>obtain⟨_,⟨ob,_,_,e,_⟩,_⟩:=x;exact⟨_,e⟩
 | rng lo hi=>obtain⟨_,_,_,e⟩:=x;exact⟨_,e⟩
 | frz ob u=>obtain⟨e,_⟩:=x;exact⟨_,e⟩
 | tbl ps=>exact⟨_,(show h.get? a=some _ from x)⟩
 | met f y=>exact⟨_,(show h.get? a=some _ from x)⟩
 | ext φ=>obtain⟨_,e,_⟩:=x;exact e
structure OJ(fs:List Addr)(H H':Hp)(h B h':Heap):Prop where
 kp:∀b o,h.get? b=some o->H b=none->b ∉ fs->B.get? b=some o
 sl:∀b o,h.get? b=some o->H b=none->b∈fs->∃z,h'.get? b=some { o with slots:=z }
 fr:∀b o,h.get? b=some o->H b=none->H' b=none
 th:∀b o,h.get? b=some o->b ∉ fs->∃z,B.get? b=some z
 tu:∀b xs,H b=some (.tup xs)->H' b=some (.tup xs)
 fz:∀b o u,H b=some (.frz o u)->H' b=some (.frz o u)
 tb:∀b ps,H b=some (.tbl ps)->∃more,H' b=some (.tbl (ps++more))
section
variable{fs:List Addr}{H H':Hp}{h B h' h2:Heap}
theorem OJ.un(x:OJ fs H H' h B h')(hB:B.StaysIn h2)(hf:∀b∈fs,H b=none)(hs:∀b o,h'.get? b=some o->b∈fs->∃z,h2.get? b=some { o with slots:=z }):Un fs [] H H' h h2 where
 keep:=fun b o e n hb _=>hB b o (x.kp b o e n hb)
 slot:=fun b o e n hb _=>by
  obtain⟨z,e1⟩:=x.sl b o e n hb;obtain⟨z',e2⟩:=hs b _ e1 hb;exact⟨z',e2⟩
 free:=fun b o e n _=>x.fr b o e n
 there:=fun b o e _=>by
  by_cases hb:b∈fs
  . obtain⟨z,e1⟩:=x.sl b o e (hf b hb) hb;obtain⟨z',e2⟩:=hs b _ e1 hb;exact⟨_,e2⟩
  . obtain⟨z,e1⟩:=x.th b o e hb;exact⟨z,hB b z e1⟩
 tups:=x.tu
 frzs:=x.fz
 tbls:=x.tb
theorem f8{l:List Env}(ff:h'.FunFrames B l)(up:h'.UpToSlots h2):∀b o,h'.get? b=some o->b∈frs l->∃z,h2.get? b=some { o with slots:=z }:=fun b o e hb=>by
 obtain⟨_,o',e',hd⟩:=ff.mem hb;rw[e]at e';cases e';exact up b o e hd
theorem OJ.next{l:List Env}(x:OJ (frs l) H H' h B h')(ff:h'.FunFrames B l)(up:h'.UpToSlots h2):OJ (frs l) H H' h B h2 :=
 ⟨x.kp,fun b o e n hb=>by
  obtain⟨z,e1⟩:=x.sl b o e n hb;obtain⟨z',e2⟩:=f8 ff up b _ e1 hb;exact⟨z',e2⟩,x.fr,x.th,x.tu,x.fz,x.tb⟩
end
def ErrD(e:Addr)(dx:OAddr)(h:Heap):Prop:=∃o,h.get? e=some o/\o.dict=dx
theorem ErrD.go{e:Addr}{dx:OAddr}{h h':Heap}(x:ErrD e dx h)(k:Dy h h'):ErrD e dx h':=by
 obtain⟨o,e1,d1⟩:=x;obtain⟨o',e2,d2⟩:=k e o e1;exact⟨o',e2,d2.trans d1⟩
def oK(P:Program)(w:World):KJ:=fun outer H s E u s'=>∃(e:Addr) (cls a0:Value) (B:Heap) (H':Hp) (dx:OAddr),u=.ref e/\s'.os=s.os/\AllBare s'.gens/\OJ (frs outer) H H' s.heap B s'.heap/\L4 P w H' B/\Heap.FlyingW B outer e cls a0 s'.heap/\ErrD e dx s'.heap/\E cls dx H'
def FlyAt(X:Cx)(Ac:LAObj)(e:Addr)(cls a0:Value)(dx:OAddr)(σ:St)(H':Hp)(s':Shared):Prop :=
 ∃(B:Heap) (H:Hp) (s:Shared),Inv X Ac σ H s/\s'.os=s.os/\AllBare s'.gens/\OJ (frs X.stack) H H' s.heap B s'.heap/\L4 X.prog X.w H' B/\Heap.FlyingW B X.stack e cls a0 s'.heap/\ErrD e dx s'.heap
abbrev XJ:=Value->OAddr->St->Hp->Prop
def Fly(X:Cx)(J:XJ)(u:Value)(s':Shared):Prop:=∃(e:Addr) (cls a0:Value) (dx:OAddr) (σ:St) (H':Hp),u=.ref e/\FlyAt X [] e cls a0 dx σ H' s'/\J cls dx σ H'
def cW(X:Cx)(J:XJ):Prop:=∀u s',Fly X J u s'->X.xe u s'
def rB(X:Cx)(J:XJ):Prop:=∀(Ac:LAObj) (σ:St) (H:Hp) (s:Shared) (e:Addr) (cls:Value) (vs:List Value) (h':Heap),Inv X Ac σ H s->Heap.MadeExcOf s.heap h' e cls vs->J cls none σ H->X.xe (.ref e) { s with heap:=h' }
def Aa9(e:Addr)(cls:Value):HO:=.ext fun h=>∃o vs,h.get? e=some o/\o.cls=cls/\o.data=.fields vs
def excX(e:Addr)(cls:Value):OAddr->HO
 | none=>Aa9 e cls
 | some d=>.ext fun h=>∃o vs,h.get? e=some o/\o.cls=cls/\o.data=.fields vs/\o.dict=some d
section
variable{X:Cx}{Ac:LAObj}{σ:St}{H H':Hp}{s s':Shared}{e:Addr}{cls a0:Value}{dx:OAddr}
theorem Inv.nopin(I:Inv X Ac σ H s):Inv X [] σ H s:=I.pins_of (fun p hp=>nomatch hp)
theorem FlyAt.step{B:Heap}{h2:Heap}{S:Shared}(I:Inv X Ac σ H S)(q1:s'.os=S.os)(q2:AllBare s'.gens)(q3:OJ (frs X.stack) H H' S.heap B s'.heap)(q4:L4 X.prog X.w H' B)(q5:Heap.FlyingW B X.stack e cls a0 s'.heap)
 (f:Heap.FlyingW B X.stack e cls a0 h2) (up:s'.heap.UpToSlots h2) (d:ErrD e dx h2):FlyAt X Ac e cls a0 dx σ H' { s' with heap:=h2 } :=
 ⟨B,H,S,I,q1,q2,q3.next q5.2.2.1 up,q4,f,d⟩
theorem FlyAt.apart{B:Heap}{S:Shared}(q3:OJ (frs X.stack) H H' S.heap B s'.heap)(q5:Heap.FlyingW B X.stack e cls a0 s'.heap):S.heap.get? e=none:=by
 cases z:S.heap.get? e with
 | none=>rfl
 | some o =>
   by_cases hb:e∈frs X.stack
   . obtain⟨_,o',e1,hd⟩:=q5.2.2.1.mem hb;obtain⟨oe,vs,e2,_,d2,_⟩:=q5.first;rw[e1]at e2;cases e2;exact absurd d2 (hd vs)
   . obtain⟨o',e1⟩:=q3.th e o z hb;have e2:=q5.2.1;rw[e1]at e2;cases e2
theorem L4.none_of{P:Program}{w:World}{B:Heap}(q:L4 P w H' B)(z:B.get? e=none):H' e=none:=by
 cases y:H' e with
 | none=>rfl
 | some o =>
   obtain⟨u,e1⟩:=(q e o y).ob;rw[e1]at z;cases z
theorem FlyAt.inv(F:FlyAt X Ac e cls a0 dx σ H' s'):Inv X Ac σ H' s'/\H' e=none:=by
 obtain⟨B,H,S,I,q1,q2,q3,q4,q5,_⟩:=F;exact⟨I.call' (ch:=[]) q1 (q3.un q5.1 I.stkFree fun b o e1 _=>⟨o.slots,e1⟩) (q4.kept q5.1) q2 (fun b z=>absurd z (by simp)),q4.none_of q5.2.1⟩
theorem FlyAt.held(F:FlyAt X Ac e cls a0 dx σ H' s'):Inv X Ac σ (upd H' e (excX e cls dx)) s'/\H' e=none:=by
 obtain⟨B,H,S,I,q1,q2,q3,q4,q5,dE⟩:=F;have hn:=q4.none_of q5.2.1;have ha:=FlyAt.apart q3 q5;have ne:∀b u,H' b=some u->b≠e:=fun b u y=>Ap y hn
 have q6:OJ (frs X.stack) H (upd H' e (excX e cls dx)) S.heap B s'.heap :=
  ⟨q3.kp,q3.sl,fun b o e1 n=>by
   have:b≠e:=fun z=>by rw[z,ha]at e1;cases e1
   rw[Ae this];exact q3.fr b o e1 n,q3.th,fun b xs y=>by
   have y':=q3.tu b xs y;rw[Ae (ne b _ y')];exact y',fun b o u y=>by
   have y':=q3.fz b o u y;rw[Ae (ne b _ y')];exact y',fun b ps y=>by
   obtain⟨more,y'⟩:=q3.tb b ps y;exact⟨more,by rw[Ae (ne b _ y')];exact y'⟩⟩
 refine⟨I.call' (ch:=[]) q1 (q6.un q5.1 I.stkFree fun b o e1 _=>⟨o.slots,e1⟩) (fun b u y=>?_) q2 (fun b z=>absurd z (by simp)),hn⟩;have hk:=q4.kept q5.1;by_cases hb:b=e
 . subst hb;rw[Ad]at y;cases y;obtain⟨oe,vs,e2,c2,d2,_⟩:=q5.first;obtain⟨o3,e3,d3⟩:=dE;rw[e2]at e3;cases e3;cases dx with
   | none=>exact⟨⟨oe,vs,e2,c2,d2⟩,⟨oe,e2⟩,fun h1 h2 ⟨o,ws,a1,a2,a3⟩ k=>⟨o,ws,k o a1,a2,a3⟩⟩
   | some d=>exact⟨⟨oe,vs,e2,c2,d2,d3⟩,⟨oe,e2⟩,fun h1 h2 ⟨o,ws,a1,a2,a3,a4⟩ k=>⟨o,ws,k o a1,a2,a3,a4⟩⟩
 . rw[Ae hb]at y;exact(hk b u y).stay (fun _ _ _ q=>q) (fun c q=>by rw[Ae (ne c _ q)];exact q) fun c xs q=>by rw[Ae (ne c _ q)];exact q
end
section
variable{P:Program}{w:World}{K:W.Frag}{mg:Str->Option Value}{base:Heap}{N:List Str}{qual:Str}{scope:Scope}{f:Addr}{cd:Value}{A:Around}{outer:List Env}{s:Shared}{H:Hp}{E:XK}
theorem AN:frs (envOfC qual scope s.heap.objs.size f cd::outer)=s.heap.objs.size::frs outer:=rfl
theorem JI:cW (Xk (oK P w) P w K mg base N qual scope f cd A outer s H E) (fun cls dx _ H'=>E cls dx H'):=by
 rintro u s' ⟨e,cls,a0,dx,σ,H2,rfl,⟨B,H1,s1,I,q1,q2,q3,q4,q5,dE⟩,q6⟩
 have old:∀b o,s.heap.get? b=some o->b ∉ frs outer->b ∉ frs (envOfC qual scope s.heap.objs.size f cd::outer):=fun b o e1 hb z=>by
  rw[AN]at z;rcases List.mem_cons.mp z with y | y
  . exact absurd (Heap.lt_size e1) (by rw[y];exact Nat.lt_irrefl _)
  . exact hb y
 have nx:∀b:Addr,b ∉ ([]:List Addr):=fun b=>by simp
 show wpAny (model P w) (A.deeper (envOfC qual scope s.heap.objs.size f cd)) (leaving (envOfC qual scope s.heap.objs.size f cd) (.ref e)) _ _ s';refine wpAny_mono (Db (Pg _ _) (wpAny_leaves_onW (E:=fun _ _=>False) (Q:=fun _ s2=>∃h2,s2={ s' with heap:=h2 }/\Heap.FlyingW B outer e cls a0 h2/\s'.heap.UpToSlots h2) (L:=s.heap.objs.size) I.ok.frames rfl q5 fun h2 x1 x2=>⟨h2,rfl,x1,x2⟩)) (fun _ s2 ⟨⟨h2,e2,x1,x2⟩,kd⟩=>?_) (fun _ _ z=>z.1.elim);subst e2;refine⟨e,cls,a0,B,H2,dx,rfl,q1.trans I.os,q2,⟨fun b o e1 n hb=>?_,fun b o e1 n hb=>?_,fun b o e1 n=>?_,fun b o e1 hb=>?_,fun b xs y=>q3.tu b xs (I.base.tups b xs y),fun b o u y=>q3.fz b o u (I.base.frzs b o u y),fun b ps y=>?_⟩,q4,x1,dE.go kd,q6⟩
 . exact q3.kp b o (I.base.keep b o e1 n hb (nx b)) (I.base.free b o e1 n (nx b)) (old b o e1 hb)
 . obtain⟨z,e2⟩:=I.base.slot b o e1 n hb (nx b);have hm:b∈frs (envOfC qual scope s.heap.objs.size f cd::outer):=List.mem_cons_of_mem _ hb;obtain⟨z',e3⟩:=q3.sl b _ e2 (I.base.free b o e1 n (nx b)) hm;obtain⟨z2,e4⟩:=f8 q5.2.2.1 x2 b _ e3 hm;exact⟨z2,e4⟩
 . obtain⟨o',e2⟩:=I.base.there b o e1 (nx b);exact q3.fr b o' e2 (I.base.free b o e1 n (nx b))
 . obtain⟨o',e2⟩:=I.base.there b o e1 (nx b);exact q3.th b o' e2 (old b o e1 hb)
 . obtain⟨m1,y1⟩:=I.base.tbls b ps y;obtain⟨m2,y2⟩:=q3.tb b _ y1;exact⟨m1++m2,by rw[y2,Array.append_assoc]⟩
theorem IV:rB (Xk (oK P w) P w K mg base N qual scope f cd A outer s H E) (fun cls dx _ H'=>E cls dx H'):=by
 intro Ac σ H1 s1 e cls vs h' I hx hj;have fin:∀env∈(envOfC qual scope s.heap.objs.size f cd::outer),∀b,env.frame=some b->b∈frs (envOfC qual scope s.heap.objs.size f cd::outer):=fun env he b hb=>List.mem_filterMap.mpr ⟨env,he,hb⟩
 have old:∀b o,s.heap.get? b=some o->b ∉ frs outer->b ∉ frs (envOfC qual scope s.heap.objs.size f cd::outer):=fun b o e1 hb z=>by
  rw[AN]at z;rcases List.mem_cons.mp z with y | y
  . exact absurd (Heap.lt_size e1) (by rw[y];exact Nat.lt_irrefl _)
  . exact hb y
 have nx:∀b:Addr,b ∉ ([]:List Addr):=fun b=>by simp
 have QV:∀b∈frs (envOfC qual scope s.heap.objs.size f cd::outer),H1 b=none:=I.stkFree;show wpAny (model P w) (A.deeper (envOfC qual scope s.heap.objs.size f cd)) (leaving (envOfC qual scope s.heap.objs.size f cd) (.ref e)) _ _ { s1 with heap:=h' }
 have dE:ErrD e none h':=by
  obtain⟨_,_,t0,hget,_⟩:=hx;exact⟨_,hget,rfl⟩
 refine wpAny_mono (Db (Pg _ _) (wpAny_leaves_madeW (E:=fun _ _=>False) (Q:=fun _ s2=>∃h2 t,s2={ s1 with heap:=h2 }/\Heap.FlyingW (PySem.W.hideAll s1.heap (frs (envOfC qual scope s.heap.objs.size f cd::outer))) outer e cls (.ref t) h2/\h'.UpToSlots h2) (L:=s.heap.objs.size) (base:=PySem.W.hideAll s1.heap (frs (envOfC qual scope s.heap.objs.size f cd::outer))) (h:=s1.heap) I.ok.frames rfl (fun b o q=>PySem.W.of_hideAll _ q) (PySem.W.funFrames_hide I.stack fin) hx fun h2 t x1 x2 x3 x4=>⟨h2,t,rfl,x1,x4⟩)) (fun _ s2 ⟨⟨h2,t,e2,x1,x4⟩,kd⟩=>?_) (fun _ _ z=>z.1.elim);subst e2;refine⟨e,cls,.ref t,_,H1,none,rfl,I.os,I.bare,⟨fun b o e1 n hb=>?_,fun b o e1 n hb=>?_,fun b o e1 n=>I.base.free b o e1 n (nx b),fun b o e1 hb=>?_,I.base.tups,I.base.frzs,I.base.tbls⟩,?_,x1,dE.go kd,hj⟩
 . exact PySem.W.hideAll_get _ (I.base.keep b o e1 n hb (nx b)) (old b o e1 hb)
 . obtain⟨z,e2⟩:=I.base.slot b o e1 n hb (nx b);obtain⟨_,o',e3,hd⟩:=I.ok.funs.mem hb;have wO:s.heap.get? b=some o':=e3;rw[e1]at wO;cases wO;obtain⟨z2,e4⟩:=x4 b _ (hx.keeps b _ e2) hd;exact⟨z2,e4⟩
 . obtain⟨o',e2⟩:=I.base.there b o e1 (nx b);exact⟨o',PySem.W.hideAll_get _ e2 (old b o e1 hb)⟩
 . intro a u y;refine(I.hok a u y).stay (fun b v hb q=>PySem.W.hideAll_get _ q fun hm=>?_) (fun _ q=>q) fun _ _ q=>q;have z:=QV b hm;rcases hb with rfl | hb
   . rw[y]at z;cases z
   . rw[hb]at z;cases z
theorem Fo.okX{x:Str}{st:Stmt}{fd:FuncData}{ps:List Str}{k:Nat}{sp:Sp}(F:Fo K x qual st f fd)(S:FnScope N ps (Ai st))(len:∀vs H Q E,sp vs H Q E->vs.length=ps.length)
 (hbody:∀(Cl:Value) (A:Around) (outer:List Env) (s:Shared) (H:Hp) (vs:List V) (Q:VK) (E:XK),Di k (A.deeper (envOfC qual (Ai st) s.heap.objs.size f Cl))->sp vs H Q E →
   ∃t,BB (Xk (oK P w) P w K mg base N qual (Ai st) f Cl A outer s H E) (Ay st) t/\t { nx:=fun _ H'=>Q .non H',rt:=Q } (start N vs) H):Bj P w K mg base (oK P w) (k+1) f fd ps sp:=by
 obtain⟨oc,od,kV,doc,pm,an,Cl,ct,osl,rfl,lk,hcd⟩:=F.ex;exact mZ lk hcd S len fun A outer s H vs Q E hr dD=>hbody Cl A outer s H vs Q E hr dD
end
structure HasX(P:Program)(w:World)(K:W.Frag)(mg:Str->Option Value)(base:Heap)(x:Str)(ps:List Str)(k:Nat)(sp:Sp):Prop where
 ex:∃(f:Addr) (fd:FuncData),mg x=some (.ref f)/\W.keepIn K (.ref f)=true/\Ey K fd ps []/\Bj P w K mg base (oK P w) k f fd ps sp
def RL(sp:Sp)(J:XJ)(t:TA):TE:=fun σ H Q=>t σ H fun vs H1=>sp vs H1 Q (fun cls dx H2=>J cls dx σ H2)
section
variable{X:Cx}{J:XJ}{x:Str}{ps:List Str}{j k:Nat}{sp:Sp}{p pos:Pos}{e:Expr}{es:List Expr}{t:TA}
theorem FT{Ac:LAObj}{σ:St}{H:Hp}{s:Shared}{Q:VK}{us:List Value}{vs:List V}{f:Addr}{fd:FuncData}(F:Bj X.prog X.w X.K X.mg X.base (oK X.prog X.w) k f fd ps sp)(hr:Di k X.A)(hb:Ey X.K fd ps [])(hx:cW X J)
 (I:Inv X Ac σ H s) (r:Vals vs us) (h:sp vs H Q (fun cls dx H2=>J cls dx σ H2)):wpAny (model X.prog X.w) X.A (call (.ref f) us) (EP X Ac σ Q) X.xe s:=by
 have hl:us.length=ps.length:=by rw[←r.length];exact F.len _ _ _ _ h
 have hb1:=hb s us I.kIn (by rw[List.append_nil];exact hl);rw[List.append_nil]at hb1;refine wpAny_call (codeAny_mono (F.run X.A X.stack s H ⟨us,[]⟩ us vs Q _ hr I.env0 hb1 r h) fun q s' hq=>?_);cases q with
 | error u =>
   obtain⟨e,cls,a0,B,H',dx,rfl,q1,q2,q3,q4,q5,dE,q6⟩:=hq;exact hx _ _ ⟨e,cls,a0,dx,σ,H',rfl,⟨B,H,s,I.nopin,q1,q2,q3,q4,q5,dE⟩,q6⟩
 | ok fl =>
   cases fl with
   | ret u=>exact I.after hq
   | next=>exact False.elim hq
   | brk=>exact False.elim hq
   | cont=>exact False.elim hq
theorem lP(hx:cW X J)(h:HasX X.prog X.w X.K X.mg X.base x ps j sp)(hr:Di k X.A)(hg:Gl X x)(ha:PA X (e::es) t)(hk:j<=k:=by decide)(hdb:(x==("__debug__":Str))=false:=by decide)
 (he:starEach (e::es) X.env=(false,eval e X.env)::starEach es X.env:=by rfl) (hpl:(backTo pos (starEach es X.env)).any (·.1)=false:=by rfl):PE X (.Call (.Name x p) (e::es) [] pos) (RL sp J t):=by
 intro Ac s σ H Q I hw;obtain⟨f,fd,h1,h2,h3,h4⟩:=h.ex;refine wpAny_Call_Name_kw (Gf I hg h1 ?_ hdb);refine PySem.W.callWith_K (h₀:=X.base) I.ok.mod.kin h2 (Bu (ha pos Ac s σ H _ I hw) fun us s1 ⟨vs,H1,I1,r,q⟩=>⟨I1.kIn,?_⟩) he hpl;exact FT h4 (hr.mono hk) h3 hx I1 r q
end
abbrev bmV:List Value:=[.type "ValueError",.type "Exception",.type "BaseException",.type "object"]
theorem pF{K:W.Frag}{h:Heap}{C:Addr}{bmB:List Value}{nid:String}(X:K.In h)(z:PySem.W.excIn K C bmB nid=true) :
 ∃bm N nm q bs hdct sn sub ab col dd k0 k1 k2 k3 k5 mN,h.get? C=some (excClassObj nm q C N bs bm hdct sn sub ab col dd k0 k1 k2 k3 k5 nid)/\h.Ns N mN/\mN "__init__"=none/\OwnTail h bmB bm:=by
 unfold PySem.W.excIn at z;split at z
 case h_2=>cases z
 case h_1 dd cd sl ho =>
  split at z
  case h_2=>cases z
  case h_1 C' bm k0 k1 k2 k3 n k5 hm hs =>
   rw[Bool.and_eq_true,Bool.and_eq_true,Bool.and_eq_true,Bool.and_eq_true,Bool.and_eq_true,beq_iff_eq,beq_iff_eq,Bool.not_eq_true',beq_iff_eq]at z;obtain⟨⟨⟨⟨⟨z1,z2⟩,z3⟩,z4⟩,z5⟩,z6⟩:=z;obtain⟨nm,bs,mro,ns,qn,hd,sn,sub,ab,col,del⟩:=cd;have hm':mro=.ref C'::bm:=hm;have z3':del=false:=z3;subst hm' z3' z1 z2
   have hsl:sl=#[k0,k1,k2,k3,some (.builtin n),k5]:=by
    cases sl with
    | mk l =>
      have:l=[k0,k1,k2,k3,some (.builtin n),k5]:=hs;rw[this]
   subst hsl;exact⟨bm,ns,nm,qn,bs,hd,sn,sub,ab,col,dd,k0,k1,k2,k3,k5,_,X _ _ ho,.of_isNs (PySem.W.isNs_of_in X z5),PySem.W.nsMap_none_of_in X z5 z6,PySem.W.tail_of_in X z4⟩
def rH(J:XJ)(C:Addr)(t:TA):TS:=fun _ σ H=>t σ H fun vs H1=>vs.length<=sizeLine/\J (.ref C) none σ H1
theorem lC{X:Cx}{J:XJ}{C:Addr}{x:Str}{np cpos pos:Pos}{e:Expr}{es:List Expr}{t:TA}(hx:rB X J)(hc:X.calm=true)(hg:Gl X x)(hm:X.mg x=some (.ref C))(z:PySem.W.excIn X.K C bmV "ValueError.__new__"=true)(ha:PA X (e::es) t)
 (hdb:(x==("__debug__":Str))=false:=by decide) (he:starEach (e::es) X.env=(false,eval e X.env)::starEach es X.env:=by rfl) (hpl:(backTo cpos (starEach es X.env)).any (·.1)=false:=by rfl) :
 PS X (.Raise (some (.Call (.Name x np) (e::es) [] cpos)) none pos) (rH J C t):=by
 intro Ac s σ H D I h;obtain⟨bm,N,nm,q,bs,hdct,sn,sub,ab,col,dd,k0,k1,k2,k3,k5,mN,hC,hN,hni,T⟩:=pF I.mod.kin z
 have hp2:(backTo cpos (starEach (e::es) X.env)).any (·.1)=false:=by
  rw[he];show(false || (backTo cpos (starEach es X.env)).any (·.1))=false;rw[hpl];rfl
 refine wpAny_Raise_call_subT PySem.F.excBase_ValueError (C:=C) (nm:=nm) (q:=q) (N:=N) (bs:=bs) (bm:=bm) (hdct:=hdct) (sn:=sn) (sub:=sub) (ab:=ab) (col:=col) (dd:=dd) (k0:=k0) (k1:=k1) (k2:=k2) (k3:=k3) (k5:=k5) (mN:=mN)
  (T.hasType PySem.F.excBase_ValueError.hasBase) (I.ok.hd hc) hp2 hni (Gf I hg hm ⟨rfl,?_⟩ hdb)
 have a1:=Bu (ha cpos Ac s σ H _ I h) (Q':=fun us s2=>(⟨us,[]⟩:Args).kw=[]/\us.length<=sizeLine/\s2.heap.get? C=some (excClassObj nm q C N bs bm hdct sn sub ab col dd k0 k1 k2 k3 k5 "ValueError.__new__")/\s2.heap.Ns N mN/\OwnTail s2.heap bmV bm ∧
  ∀h' e,Heap.MadeExcOf s2.heap h' e (.ref C) us->X.xe (.ref e) { s2 with heap:=h' }) fun us s2 ⟨vs,H1,I1,r,hl,hj⟩ =>
  ⟨rfl,by rw[←r.length];exact hl,I1.bk _ _ hC,hN.keeps I1.bk,T.keeps I1.bk,fun h' e2 xM=>hx Ac σ H1 s2 e2 _ _ h' I1 xM hj⟩
 rw[he]at a1 ⊢;exact Calls.evalArgs_plain a1
end L2
namespace L2
open PySem PySem.Spec PyProof.Rows PySem.W
section
variable{X:Cx}{Ac pn:LAObj}{σ:St}{H:Hp}{s:Shared}{J:XJ}
abbrev Cx.pinned(X:Cx)(pn:LAObj):Cx:={ X with pn:=X.pn++pn }
theorem Cx.Ok.pinned(ok:X.Ok)(pn:LAObj):(X.pinned pn).Ok :=
 ⟨ok.mod,ok.kind,ok.glob,ok.blt,ok.above,ok.inj,ok.has,ok.cab,ok.hd,ok.frames,ok.stk,ok.exf,ok.bs,ok.bsz,ok.noex,ok.exfs,ok.funs,ok.frf⟩
theorem Cx.Ok.unpinned'(ok:(X.pinned pn).Ok):X.Ok :=
 ⟨ok.mod,ok.kind,ok.glob,ok.blt,ok.above,ok.inj,ok.has,ok.cab,ok.hd,ok.frames,ok.stk,ok.exf,ok.bs,ok.bsz,ok.noex,ok.exfs,ok.funs,ok.frf⟩
theorem Inv.toPn(I:Inv X Ac σ H s):Inv (X.pinned Ac) [] σ H s:=⟨I.ok.pinned _,I.os,I.bare,I.base,I.loc,I.cell,I.free,I.freeC,fun p hp=>I.pin p (by simpa using hp),I.hok,I.len⟩
theorem Inv.ofPn(I:Inv (X.pinned Ac) [] σ H s):Inv X Ac σ H s:=⟨I.ok.unpinned',I.os,I.bare,I.base,I.loc,I.cell,I.free,I.freeC,fun p hp=>I.pin p (by simpa using hp),I.hok,I.len⟩
abbrev Cx.tried(X:Cx)(pn:LAObj)(J:XJ):Cx:=(X.pinned pn).wish (Fly (X.pinned pn) J)
theorem cF:cW (X.tried pn J) J:=fun u s' ⟨e,cls,a0,dx,σ,H',h1,⟨B,H,S,I,q⟩,h3⟩=>⟨e,cls,a0,dx,σ,H',h1,⟨B,H,S,I.unwish,q⟩,h3⟩
abbrev Cx.suite(X:Cx)(e:Addr):Cx:={ X with A:=X.A.mark (some (.ref e)),calm:=false,xe:=fun _ _=>False }
theorem Cx.Ok.suite(ok:X.Ok)(e:Addr):(X.suite e).Ok :=
 ⟨ok.mod,ok.kind,ok.glob,ok.blt,ok.above,ok.inj,ok.has,ok.cab,fun z=>Bool.noConfusion z,ok.frames,ok.stk,ok.exf,ok.bs,ok.bsz,ok.noex,ok.exfs,ok.funs,ok.frf⟩
theorem Inv.suite(I:Inv X Ac σ H s)(e:Addr):Inv (X.suite e) Ac σ H s:=⟨I.ok.suite e,I.os,I.bare,I.base,I.loc,I.cell,I.free,I.freeC,I.pin,I.hok,I.len⟩
theorem Inv.unsuite{e:Addr}(ok:X.Ok)(I:Inv (X.suite e) Ac σ H s):Inv X Ac σ H s:=⟨ok,I.os,I.bare,I.base,I.loc,I.cell,I.free,I.freeC,I.pin,I.hok,I.len⟩
theorem HA{M:Model}{A:Around}{E:Value->Shared->Prop}{i:Nat}{n:Str}{pos:Pos}{Q:Unit->Shared->Prop}(I:Inv X Ac σ H s)(hN:X.N.Nodup)(hi:X.N[i]?=some n)(hk:X.env.kindOf n=some .local)
 (h:∀s',Inv X Ac (σ.set i none) H s'->Q () s'):wpAny M A (do bindName X.env n .none;unbindBehindTheSuite X.env n pos) Q E s:=by
 obtain⟨m,hn,hl⟩:=id I.loc;have hcls:(X.env.scope.kind==.class || (X.env.scope.kind==.module&&X.env.locals != X.env.globals))=false:=by rw[I.ok.kind];rfl
 refine wpAny_nameGoes_keeps hk hn hcls fun h' v hn' hs=>h _ ?_;have lt:∀b o,X.s₀.heap.get? b=some o->b≠X.env.locals:=fun b o e=>Nat.ne_of_lt (Nat.lt_of_lt_of_le (Heap.lt_size e) I.ok.above);refine⟨I.ok,I.os,I.bare,⟨fun b o e z hb hx=>(hs.2 b (lt b o e)).trans (I.base.keep b o e z hb hx),fun b o e z hb hx=>?_,I.base.free,fun b o e hx=>?_,I.base.tups,I.base.frzs,I.base.tbls⟩,⟨_,hn',fun j y v' e1 e2 e3=>?_⟩,fun y c e=>?_,I.free,I.freeC,fun p hp=>?_,fun b o e=>?_,by simpa using I.len⟩
 . obtain⟨sl,e1⟩:=I.base.slot b o e z hb hx;exact⟨sl,(hs.2 b (lt b o e)).trans e1⟩
 . obtain⟨o',e1⟩:=I.base.there b o e hx;exact⟨o',(hs.2 b (lt b o e)).trans e1⟩
 . have hj:i≠j:=by
    rintro rfl;rw[List.getElem?_set]at e2;simp at e2
   rw[List.getElem?_set_ne hj]at e2;obtain⟨u,r,q⟩:=hl j y v' e1 e2 e3;refine⟨u,r,?_⟩;rcases q with⟨k,z⟩|⟨k,c,z,w'⟩
   . have:y≠n:=fun z'=>hj (Wg hN hi (z'▸e1));exact .inl ⟨k,by simp[this,z]⟩
   . exact .inr ⟨k,c,z,w'.sameBut hs (I.cne y c z)⟩
 . obtain⟨w',z⟩:=I.cell y c e;exact⟨w',z.sameBut hs (I.cne y c e)⟩
 . obtain⟨e,z,ne,nf,d⟩:=I.pin p hp;exact⟨(hs.2 p.1 ne).trans e,z,ne,nf,d⟩
 . refine(I.hok b o e).stay (fun c w' hc q=>(hs.2 c ?_).trans q) (fun _ q=>q) fun _ _ q=>q;rintro rfl;have hf:=I.free;rcases hc with rfl | hc
   . rw[hf]at e;cases e
   . rw[hf]at hc;cases hc
end
def PH(X:Cx)(hs:List ExceptHandler)(th:Ends->XJ):Prop:=∀(Ac:LAObj) (s:Shared) (σ:St) (H:Hp) (D:Ends) (e:Addr) (cls a0:Value) (dx:OAddr),FlyAt X Ac e cls a0 dx σ H s->th D cls dx σ H →
 wpAny (model X.prog X.w) X.A (handleBy (.ref e) X.env hs) (SP X Ac D) X.xe s
def hNo:Ends->XJ:=fun _ _ _ _ _=>False
theorem OY{X:Cx}:PH X [] hNo:=fun _ _ _ _ _ _ _ _ _ _ h=>h.elim
def nY(i:Nat)(D:Ends):Ends:={ nx:=fun σ H=>D.nx (σ.set i none) H,rt:=D.rt,bk:=fun σ H=>D.bk (σ.set i none) H,ct:=fun σ H=>D.ct (σ.set i none) H }
def hAs(K:Frag)(C:Addr)(i:Nat)(ts:TS)(th:Ends->XJ):Ends->XJ:=fun D cls dx σ H=>∃(C':Addr) (b:Bool),cls=.ref C'/\subIn K (.ref C') (.ref C)=some b ∧
 if b=true then ∀e,H e=none->ts (nY i D) (σ.set i (some (.ref e))) (upd H e (excX e cls dx)) else th D cls dx σ H
theorem f9{M:Model}{A:Around}{E:Value->Shared->Prop}{nm q:Str}{C C' N:Addr}{bs bm:List Value}{hdct:Bool}{sn:List Str}{sub:List Value}{ab:Bool}{col:Option Bool}{dd:OAddr}{k0 k1 k2 k3 k5:Option Value}{nid:String}
 {h:Heap}{g:Array GenState}{d:Drawn}{t:Nat}{os:OsState}{e:Addr}{oe:Obj}{b:Bool}{Q:Bool->Shared->Prop} (hC:h.get? C=some (excClassObj nm q C N bs bm hdct sn sub ab col dd k0 k1 k2 k3 k5 nid))
 (he:h.get? e=some oe) (hcls:oe.cls=.ref C') (hbase:bm.contains (.type "BaseException")=true) (LS:Looks M h (isSubtype (.ref C') (.ref C)) b) (hq:Q b ⟨h,g,d,t,os⟩):wpAny M A (excMatches (.ref e) (.ref C)) Q E ⟨h,g,d,t,os⟩:=by
 have hb2:(Value.ref C::bm).contains (.type "BaseException")=true:=by rw[List.contains_cons,hbase,Bool.or_true]
 have tnt:=tc_notTuple;unfold excMatches
 repeat (first | (with_reducible refine wpAny_loadPart_at he ?_;rw[hcls]) | with_reducible refine wpAny_loadPart_at hC ?_ | (with_reducible refine wpAny_isSubtype_exc hC ?_;rw[hb2]) | with_reducible refine LS.at ?_ | wp_step)
 cases b<;>(wp_walk;exact hq)
section
variable{X:Cx}{th:Ends->XJ}
theorem VD{x n:Str}{i:Nat}{C:Addr}{np hpos:Pos}{b0:Stmt}{bs:List Stmt}{ts:TS}{rest:List ExceptHandler}(hN:X.N.Nodup)(hi:X.N[i]?=some n)(hk:X.env.kindOf n=some .local)(hg:Gl X x)(hm:X.mg x=some (.ref C))(hC:ktsIn X.K C "BaseException"=true)
 (hs:∀e,BB (X.suite e) (b0::bs) ts) (hr:PH X rest th) (hdb:(x==("__debug__":Str))=false:=by decide):PH X (.ExceptHandler (some (.Name x np)) (some n) (b0::bs) hpos::rest) (hAs X.K C i ts th):=by
 intro Ac s σ H D e cls a0 dx F h;obtain⟨C',b,rfl,hb,h⟩:=h;have I:=F.inv.1;obtain⟨nm,qn,N,bs',bm,hdct,sn,sub,ab,col,dd,k0,k1,k2,k3,k5,nid,zV,hbase,_⟩:=kts_cls I.kIn hC;have F':=F;obtain⟨B,H0,S,I0,q1,q2,q3,q4,q5,dE⟩:=F';obtain⟨oe,he,hcls⟩:=q5.there;refine wpAny_handleBy_cons (codeAny_handlers_test (Gf (X:=X.suite e) (I.suite e) hg hm ?_ hdb)) (by intro q;cases q);have LS:Looks (model X.prog X.w) s.heap (isSubtype (.ref C') (.ref C)) b:=looks_subIn I.kIn hb;obtain⟨sh,sg,sd,st,so⟩:=s;refine f9 zV he hcls hbase LS ?_;cases b with
 | false =>
   rw[if_neg Bool.false_ne_true]at h;exact hr Ac _ σ H D e _ a0 dx F h
 | true =>
   rw[if_pos rfl]at h;refine codeAny_handlers_suite_as ?_;refine wpAny_mono (Db (Gg _ _) (lands_againW (E:=fun _ _=>False) (Q:=fun _ s2=>∃h6,s2={ (⟨sh,sg,sd,st,so⟩:Shared) with heap:=h6 }/\Heap.FlyingW B X.stack e (.ref C') a0 h6/\sh.UpToSlots h6) q5 fun h6 f6 rG=>⟨h6,rfl,f6,rG⟩)) (fun _ s2 ⟨⟨h6,e6,f6,rG⟩,kd⟩=>?_) (fun _ _ z=>z.1.elim);subst e6;have F6:=FlyAt.step I0 q1 q2 q3 q4 q5 f6 rG (dE.go kd);obtain⟨I6,hn⟩:=F6.held;refine P5 (v:=.ref e) I6 hN hi (.inl hk) rfl (fun s7 I7=>?_) (.inr hk);refine wpAny_mono (hs e Ac s7 _ _ (nY i D) (I7.suite e) (h e hn)) (fun f s8 q=>?_) fun _ _ z=>z.elim
   have go:∀{σ':St}{H':Hp}{f:Flow},Inv (X.suite e) Ac σ' H' s8->(∀s9,Inv X Ac (σ'.set i none) H' s9->SP X Ac D f s9)->wpAny (model X.prog X.w) X.A (do bindName X.env n .none;unbindBehindTheSuite X.env n hpos) (fun _ s9=>SP X Ac D f s9) X.xe s8 :=
    fun {σ' H' f} I8 k=>HA (I8.unsuite I.ok) hN hi hk k
   cases f with
   | next=>obtain⟨σ',H',I8,q⟩:=q;exact go I8 fun s9 I9=>⟨_,H',I9,q⟩
   | brk=>obtain⟨σ',H',I8,q⟩:=q;exact go I8 fun s9 I9=>⟨_,H',I9,q⟩
   | cont=>obtain⟨σ',H',I8,q⟩:=q;exact go I8 fun s9 I9=>⟨_,H',I9,q⟩
   | ret u=>obtain⟨v,σ',H',I8,r,q⟩:=q;exact go I8 fun s9 I9=>⟨v,_,H',I9,r,q⟩
def YI(tb:XJ->TS)(th:Ends->XJ):TS:=fun D σ H=>tb (th D) D σ H
theorem RQ{tb:XJ->TS}{body:List Stmt}{h0:ExceptHandler}{hs:List ExceptHandler}{pos:Pos}(hb:∀pn J,BB (X.tried pn J) body (tb J))(hh:PH X (h0::hs) th)(SW:X.stack=X.env::X.outer:=by rfl)(hfr:X.env.frame=some X.env.locals:=by rfl) :
 PS X (.Try body (h0::hs) [] [] pos) (YI tb th):=by
 intro Ac s σ H D I h;refine wpAny_Try_except (wpAny_mono (hb Ac (th D) [] s σ H D (I.toPn.wish _) h) (fun f s1 q=>?_) fun u s1 q=>?_)
 . cases f with
   | next=>obtain⟨σ',H',I',q⟩:=q;exact wpAny_execs_nil ⟨σ',H',I'.unwish.ofPn,q⟩
   | brk=>obtain⟨σ',H',I',q⟩:=q;exact⟨σ',H',I'.unwish.ofPn,q⟩
   | cont=>obtain⟨σ',H',I',q⟩:=q;exact⟨σ',H',I'.unwish.ofPn,q⟩
   | ret u=>obtain⟨v,σ',H',I',r,q⟩:=q;exact⟨v,σ',H',I'.unwish.ofPn,r,q⟩
 . obtain⟨e,cls,a0,dx,σ',H',rfl,⟨B,H1,S,I1,q1,q2,q3,q4,q5,dE⟩,hj⟩:=q;have q5':Heap.FlyingW B (X.env::X.outer) e cls a0 s1.heap:=SW▸q5;refine wpAny_mono (Db (Qm _ _) (wpAny_looks_onW (E:=fun _ _=>False) (Q:=fun _ s2=>∃h4,s2={ s1 with heap:=h4 }/\Heap.HeldW B (X.env::X.outer) e cls a0 X.env.locals h4/\s1.heap.UpToSlots h4) (L:=X.env.locals) (I.ok.frames.trans (congrArg some SW)) hfr q5' fun h4 mU yF=>⟨h4,rfl,mU,yF⟩)) (fun _ s2 ⟨⟨h4,e4,mU,yF⟩,kd4⟩=>?_) (fun _ _ z=>z.1.elim);subst e4;refine wpAny_mono (Db (Gg _ _) (wpAny_landsW (E:=fun _ _=>False) (Q:=fun _ s2=>∃h5,s2={ s1 with heap:=h5 }/\Heap.FlyingW B (X.env::X.outer) e cls a0 h5/\h4.UpToSlots h5) mU fun h5 fl5 YE=>⟨h5,rfl,fl5,YE⟩)) (fun _ s2 ⟨⟨h5,e5,fl5,YE⟩,kd5⟩=>?_) (fun _ _ z=>z.1.elim);subst e5;exact hh Ac _ σ' H' D e cls a0 dx (FlyAt.step (s':=s1) I1.ofPn q1 q2 q3 q4 q5 (SW▸fl5) (yF.trans YE) (dE.go (kd4.trans kd5))) hj
end
structure ExcC(K:Frag)(C:Addr):Prop where
 cls:ktsIn K C "BaseException"=true
 ga:findIn K (.ref C) "__getattribute__"=some (some (.builtin "BaseException.__getattribute__"))
 gt:findIn K (.ref C) "__getattr__"=some none
 cl:findIn K (.ref C) "__class__"=some (some (.builtin "object.__class__"))
 ob:subIn K (.ref C) (.type "object")=some true
 be:subIn K (.ref C) (.type "BaseException")=some true
section
variable{prog:Program}{w:World}{A:Around}{E:Value->Shared->Prop}{h:Heap}{g:Array GenState}{d:Drawn}{t:Nat}{os:OsState}{a C:Addr}{o:Obj}{K:Frag}
theorem dG{M:Model}{nameV:Value}{Q:Unit->Shared->Prop}(X:K.In h)(Z:ExcC K C)(hx:h.get? a=some o)(hc:o.cls=.ref C)(hq:Q () ⟨h,g,d,t,os⟩) :
 wpAny M A (checkBuiltinCall "BaseException.__getattribute__" ⟨[.ref a,nameV],[]⟩) Q E ⟨h,g,d,t,os⟩:=by
 have hk:builtinKind "BaseException.__getattribute__"=some .slot:=by decide +kernel
 have dD:splitId "BaseException.__getattribute__"=some ("BaseException","__getattribute__"):=by decide +kernel
 have LS:Looks M h (isSubtype (.ref C) (.type "BaseException")) true:=looks_subIn X Z.be;have ha:=F.args_bexc_ga (.ref a) nameV;simp only[checkBuiltinCall,hk,dD];refine wpAny_bind ?_;unfold isInstance
 repeat (first | (with_reducible refine wpAny_loadPart_at hx ?_;rw[hc]) | with_reducible refine LS.at ?_ | wp_step)
 exact hq
end
section
variable{X:Cx}{K:Frag}
end
end L2
namespace L2
open PySem PySem.Spec PyProof.Rows
def Ite(K:W.Frag)(a:Addr):It :=
 ⟨fun i H=>∃xs x,SqL K H a xs/\xs[i]?=some x,fun i H x H'=>∃p v,H p=none/\x=.ref p/\H'=upd H p (.tup [.int i,v])/\∀xs,SqL K H a xs->xs[i]?=some v,fun i H=>∃xs,SqL K H a xs/\xs.length<=i⟩
theorem HE{P:Program}{w:World}{K:W.Frag}{es:List Expr}{x1:Nat}{tpos:Pos}(a e it:Addr)(hne:e≠it):Uy P w K (.Tuple es x1 tpos) (Ite K a) [e,it] e (fun i h=>(∃old,IsEnum h e it (i:Int) old)/\h.IsListIter it a i) where
 mem:=by simp
 obj:=fun i h st b hb=>by
  obtain⟨⟨old,h1⟩,o,h2,c,d⟩:=st;rcases List.mem_cons.mp hb with rfl | hb
  . exact⟨_,h1,fun v z=>by cases (show Data.fields _=Data.cell v from z)⟩
  . have z:b=it:=by simpa using hb
    subst z;exact⟨o,h2,fun v z=>by rw[d]at z;cases z⟩
 keep:=fun i h h' st k=>by
  obtain⟨⟨old,h1⟩,h2⟩:=st;exact⟨⟨old,k e (by simp) _ h1⟩,h2.at fun o z=>k it (by simp) o z⟩
 item:=by
  intro X hP hw hK hc i Ac s σ H E I hf st hg;subst hP hw hK;obtain⟨⟨old,h1⟩,h2⟩:=st;obtain⟨xs,x,hq,hx⟩:=hg;obtain⟨its,rv,p,hz⟩:=I.list hq;obtain⟨u,hu,ru⟩:=rv.get hx;have fe:=hf e (by simp);have fi:=hf it (by simp);have VO:e<s.heap.objs.size:=Heap.lt_size h1;have hfresh:H s.heap.objs.size=none:=I.hok.fresh (Nat.le_refl _);refine wpAny_pyNext_enum_item h1 h2 p.isList (x:=u) (by simpa using hu) hne fun h' hout sY htup hsz hk=>?_;refine⟨_,rfl,wpAny_letOwnedTupleGo_enum hout fun h3 hen Ka=>?_⟩
  replace Ka:Heap.SameBut e h' h3:=Ka
  have kk:∀b o,b≠e->b≠it->s.heap.get? b=some o->h3.get? b=some o:=fun b o n1 n2 z=>(Ka.2 b n1).trans (hk b o n1 n2 z);have PU:h3.get? s.heap.objs.size=some { cls:=.type "tuple",data:=.seq #[.int i s.toks,u] }:=(Ka.2 _ (Nat.ne_of_gt VO)).trans htup;have xO:h3.IsListIter it a (i+1):=sY.at fun o z=>(Ka.2 it hne.symm).trans z;have z7:∀b,b ∉ [e,it]->b≠e/\b≠it:=fun b hb=>by simpa using hb
  have Y7:∀b v,H b=some v->b≠e/\b≠it:=fun b v z=>⟨Ap z fe.1,Ap z fi.1⟩
  have Qh:∀b v,H b=some v->b≠s.heap.objs.size:=fun b v z=>Ap z hfresh;refine⟨.ref s.heap.objs.size,upd H s.heap.objs.size (.tup [.int i,x]),?_,rfl,⟨s.heap.objs.size,x,hfresh,rfl,rfl,fun ys hy=>by rw[I.list_inj hy hq];exact hx⟩,⟨⟨_,hen⟩,xO⟩,fun b hb=>?_⟩
  . refine Inv.step (s:=s) (h':=h3) (t':=s.toks+1) (H':=upd H s.heap.objs.size (.tup [.int i,x])) I (g':=s.gens) (d':=s.drawn) (ch:=[e,it]) (fun b hb=>?_) (fun b o _ _ hb z _=>kk b o (z7 b hb).1 (z7 b hb).2 z) (fun b o _ _ hb z _=>⟨o.slots,kk b o (z7 b hb).1 (z7 b hb).2 z⟩) (fun b o hb z n=>?_) (fun b o hb z=>⟨o,kk b o (z7 b hb).1 (z7 b hb).2 z⟩)
     (fun b ys z=>by rw[Ae (Qh b _ z)];exact z) (fun b o v z=>by rw[Ae (Qh b _ z)];exact z) (fun b ps z=>⟨#[],by rw[Ae (Qh b _ z),z];simp⟩) (fun m hm=>?_) (fun b v z=>?_) I.bare
    . rcases List.mem_cons.mp hb with rfl | hb
      . exact⟨fe.2.2.2.1,fe.2.1,fe.2.2.2.2.1,fe.2.2.2.2.2⟩
      . have z:b=it:=by simpa using hb
        subst z;exact⟨fi.2.2.2.1,fi.2.1,fi.2.2.2.2.1,fi.2.2.2.2.2⟩
    . rw[Ae (Nat.ne_of_lt (Heap.lt_size z))];exact n
    . obtain⟨o,es',ep,ho,r⟩:=hm;exact⟨o,es',ep,kk _ o fe.2.1.symm fi.2.1.symm ho,r⟩
    . by_cases hb:b=s.heap.objs.size
      . subst hb;rw[Ad]at z;cases z;exact⟨(by show(2:Nat)<=sizeLine;decide),[.int i s.toks,u],.cons ⟨_,rfl⟩ (.cons ru .nil),⟨_,PU,rfl,rfl,_,rfl⟩⟩
      . rw[Ae hb]at z;refine(I.hok b v z).stay (fun c y hc' q=>?_) (fun c q=>by rw[Ae (Qh c _ q)];exact q) fun c ys q=>by rw[Ae (Qh c _ q)];exact q
        rcases hc' with rfl | hc'
        . exact kk _ _ (Y7 _ _ z).1 (Y7 _ _ z).2 q
        . exact kk _ _ (Y7 _ _ hc').1 (Y7 _ _ hc').2 q
  . have lb:b<s.heap.objs.size:=by
     rcases List.mem_cons.mp hb with rfl | hb
     . exact VO
     . have z:b=it:=by simpa using hb
       subst z;obtain⟨o,z,_⟩:=h2;exact Heap.lt_size z
    rw[Ae (Nat.ne_of_lt lb)];exact(hf b hb).1
 done:=by
  intro X hP hw hK hc i Ac s σ H E I hf st hg;subst hP hw hK;obtain⟨⟨old,h1⟩,h2⟩:=st;obtain⟨xs,hq,hx⟩:=hg;obtain⟨its,rv,p,hz⟩:=I.list hq;obtain⟨f0,f1,f2,f3,f4,f5⟩:=hf it (by simp);have hl:=rv.length;exact wpAny_pyNext_enum_end (I.ok.hd hc) h1 h2 p.isList (by simp;omega) fun h' eb=>⟨rfl,I.turned (t':=s.toks) (fun b o hb z=>eb b o hb z) f0 f1 f3 f4 f5⟩
 self:=fun _ _ _ _ _ st h=>by
  obtain⟨⟨old,h1⟩,h2⟩:=st;exact wpAny_pyIter_enum h1 h
def VU(K:W.Frag)(ta:TA):TI:=fun σ H R=>ta σ H fun vs H1=>∃a,vs=[.ref a]/\(∃xs,SqL K H1 a xs)/\R (Ite K a) H1
theorem Uv:bootBuiltins "enumerate"=some (.type "enumerate"):=by decide +kernel
theorem oY{X:Cx}{K:W.Frag}{es:List Expr}{x1:Nat}{tpos:Pos}{a:Expr}{ta:TA}{p pos:Pos}(hg:Gl X "enumerate")(hm:X.mg "enumerate"=none)(ha:PA X [a] ta)(hK:X.K=K:=by rfl)(hs:starEach [a] X.env=[(false,eval a X.env)]:=by rfl):PI X (.Tuple es x1 tpos) (.Call (.Name "enumerate" p) [a] [] pos) (VU K ta):=by
 subst hK;intro Ac s σ H R I h;refine Call_ (Ja I hg hm Uv (PyProof.Rows.callWith_type1 (Bu (ha pos Ac s σ H _ I h) fun us s1 ⟨vs,H1,I1,r1,q1⟩=>?_) hs rfl));obtain⟨l,e,⟨xs,hq⟩,q⟩:=q1;subst e;cases r1 with
 | cons r rr =>
   cases rr;cases r;obtain⟨its,rv,pl,hz⟩:=I1.list hq;refine call_enumerate_list pl.isList fun h' hen hit hsz hk=>?_;refine wpAny_pyIter_enum hen ⟨s1.heap.objs.size+1,[s1.heap.objs.size+1,s1.heap.objs.size],_,_,H1,rfl,I1.kept (t':=s1.toks) hk,HE l _ _ (Nat.succ_ne_self _),⟨⟨_,hen⟩,hit⟩,fun b hb=>?_,q⟩
   have lb:s1.heap.objs.size<=b:=by
    rcases List.mem_cons.mp hb with rfl | hb
    . exact Nat.le_succ _
    . have z:b=s1.heap.objs.size:=by simpa using hb
      rw[z];exact Nat.le_refl _
   exact I1.fpOk lb (I1.hok.fresh lb)
section
variable{g:TG}{tc:TT}{te:TE}{D:Addr}{Q:Hp->Prop}{τ:St}{H:Hp}
theorem jV{K:W.Frag}{a:Addr}{xs:List V}(Pv:Nat->List V->St->Hp->Prop)(h0:Pv 0 [] τ H)(hl:∀i ys τ H,i<=xs.length->Pv i ys τ H->SqL K H a xs)
 (hs:∀i x ys τ H p,xs[i]?=some x->Pv i ys τ H->H p=none->g (.ref p) τ (upd H p (.tup [.int i,x])) fun τ2 H2=>tc τ2 H2 fun b H3=>if b=true then te τ2 H3 fun y H4=>H4 D=some (.lst ys)/\ys.length<sizeLine/\Pv (i+1) (ys++[y]) τ2 (upd H4 D (.lst (ys++[y]))) else Pv (i+1) ys τ2 H3)
 (hd:∀ys τ H,Pv xs.length ys τ H->Q H):Qz (Ite K a) g tc te D Q τ H:=by
 refine⟨fun i m ys τ H=>m=xs.length-i/\i<=xs.length/\Pv i ys τ H,⟨xs.length,by simp,Nat.zero_le _,h0⟩,?_⟩;rintro i m ys τ H ⟨rfl,hi,pp⟩;have q:=hl i ys τ H hi pp;by_cases hlt:i<xs.length
 . refine .inr ⟨⟨xs,xs[i],q,by simp[hlt]⟩,Pv (i+1),fun ys' τ' H' p'=>⟨xs.length-(i+1),by omega,rfl,hlt,p'⟩,fun x H' y=>?_⟩;obtain⟨p,v,hp,rfl,rfl,y⟩:=y;exact hs i v ys τ _ p (y xs q) pp hp
 . have e:i=xs.length:=by omega
   subst e;exact .inl ⟨⟨xs,q,Nat.le_refl _⟩,hd ys τ H pp⟩
end
theorem Inv.turnedN{X:Cx}{Ac:LAObj}{σ:St}{H:Hp}{s:Shared}{h':Heap}{t':Nat}{fp:List Addr}(I:Inv X Ac σ H s)(k:∀b o,b ∉ fp->s.heap.get? b=some o->h'.get? b=some o)(hf:∀b∈fp,Je X Ac H b) :
 Inv X Ac σ H { s with heap:=h',toks:=t' }:=by
 have Y7:∀c o,H c=some o->c ∉ fp:=fun c o e hm=>by rw[(hf c hm).1]at e;cases e
 refine I.step (g':=s.gens) (d':=s.drawn) (ch:=fp) (fun b hb=>?_) (fun b o _ _ hc e _=>k b o hc e) (fun b o _ _ hc e _=>⟨o.slots,k b o hc e⟩) (fun _ _ _ _ n=>n)
  (fun b o hc e=>⟨o,k b o hc e⟩) (fun _ _ e=>e) (fun _ _ _ e=>e) (fun b ps e=>⟨#[],by rw[e];simp⟩) (fun m hm=>?_) (fun b u e=>?_) I.bare
 . have f:=hf b hb;exact⟨f.2.2.2.1,f.2.1,f.2.2.2.2.1,f.2.2.2.2.2⟩
 . obtain⟨o,es',ep,ho,r⟩:=hm;exact⟨o,es',ep,k _ o (fun z=>(hf _ z).2.1 rfl) ho,r⟩
 . refine(I.hok b u e).stay (fun c y hc' q=>?_) (fun c q=>q) fun c ys q=>q;rcases hc' with rfl | hc'
   . exact k _ _ (Y7 _ _ e) q
   . exact k _ _ (Y7 _ _ hc') q
def WX(K:W.Frag)(a b:Addr):It :=
 ⟨fun i H=>∃xs ys x y,SqL K H a xs/\SqL K H b ys/\xs[i]?=some x/\ys[i]?=some y,
  fun i H v H'=>∃p x y,H p=none/\v=.ref p/\H'=upd H p (.tup [x,y])/\(∀xs,SqL K H a xs->xs[i]?=some x)/\∀ys,SqL K H b ys->ys[i]?=some y,
  fun i H=>∃xs ys,SqL K H a xs/\SqL K H b ys/\(xs.length<=i\/ys.length<=i)⟩
theorem kO{P:Program}{w:World}{K:W.Frag}{es:List Expr}{x1:Nat}{tpos:Pos}(a b z TI TO i1 i2:Addr)(D:ZipApart z TI TO i1 i2 a b) :
 Uy P w K (.Tuple es x1 tpos) (WX K a b) [z,TI,TO,i1,i2] z (fun i h=>IsZip h z TI TO .none/\IsPair h TI (.ref i1) (.ref i2)/\(∃c d,IsPair h TO c d)/\h.IsListIter i1 a i/\h.IsListIter i2 b i) where
 mem:=by simp
 obj:=fun i h st c hc=>by
  obtain⟨hz,hTI,⟨u,v,hTO⟩,⟨o1,h1,c1,d1⟩,⟨o2,h2,c2,d2⟩⟩:=st;simp only[List.mem_cons,List.not_mem_nil,or_false]at hc;rcases hc with rfl | rfl | rfl | rfl | rfl
  . exact⟨_,hz,fun v q=>by cases (show Data.fields _=Data.cell v from q)⟩
  . exact⟨_,hTI,fun v q=>by cases (show Data.seq _ _=Data.cell v from q)⟩
  . exact⟨_,hTO,fun v q=>by cases (show Data.seq _ _=Data.cell v from q)⟩
  . exact⟨o1,h1,fun v q=>by rw[d1]at q;cases q⟩
  . exact⟨o2,h2,fun v q=>by rw[d2]at q;cases q⟩
 keep:=fun i h h' st k=>by
  obtain⟨hz,hTI,⟨u,v,hTO⟩,h1,h2⟩:=st;exact⟨k z (by simp) _ hz,k TI (by simp) _ hTI,⟨u,v,k TO (by simp) _ hTO⟩,h1.at fun o q=>k i1 (by simp) o q,h2.at fun o q=>k i2 (by simp) o q⟩
 item:=by
  intro X hP hw hK hc i Ac s σ H E I hf st hg;subst hP hw hK;obtain⟨hz,hTI,⟨u0,v0,hTO⟩,h1,h2⟩:=st;obtain⟨xs,ys,x,y,Ur,d9,hx,hy⟩:=hg;obtain⟨ia,ra,pa,_⟩:=I.list Ur;obtain⟨ib,rb,pb,_⟩:=I.list d9;obtain⟨u,hu,ru⟩:=ra.get hx;obtain⟨v,hv,rv⟩:=rb.get hy;have hfresh:H s.heap.objs.size=none:=I.hok.fresh (Nat.le_refl _);have vO:=Heap.lt_size hz;refine wpAny_pyNext_zip_item D hz hTI hTO h1 h2 pa.isList pb.isList (x:=u) (y:=v) (by simpa using hu) (by simpa using hv) fun h' hz' tH W3 h2' htup hsz hk=>?_;refine⟨_,rfl,wpAny_letOwnedTupleGo_zip hz' fun h3 zF Ka=>?_⟩
  replace Ka:Heap.SameBut z h' h3:=Ka
  have kk:∀c o,c ∉ [z,TI,TO,i1,i2]->s.heap.get? c=some o->h3.get? c=some o:=fun c o hc e=>by
   simp only[List.mem_cons,List.not_mem_nil,or_false,not_or]at hc;obtain⟨n1,n2,n3,n4,n5⟩:=hc;exact(Ka.2 c n1).trans (hk c o n1 n3 n4 n5 e)
  have PU:h3.get? s.heap.objs.size=some { cls:=.type "tuple",data:=.seq #[u,v] }:=(Ka.2 _ (Nat.ne_of_gt vO)).trans htup;have hi1:h3.IsListIter i1 a (i+1):=W3.at fun o e=>(Ka.2 i1 D.i1z).trans e;have hi2:h3.IsListIter i2 b (i+1):=h2'.at fun o e=>(Ka.2 i2 D.i2z).trans e;have tK:IsPair h3 TI (.ref i1) (.ref i2):=(Ka.2 TI D.TIz).trans (hk _ _ D.TIz D.TITO D.TIi1 D.TIi2 hTI);have tG:IsPair h3 TO u v:=(Ka.2 TO D.TOz).trans tH;have Y7:∀c o,H c=some o->c ∉ [z,TI,TO,i1,i2]:=fun c o e hm=>by rw[(hf c hm).1]at e;cases e
  have Qh:∀c o,H c=some o->c≠s.heap.objs.size:=fun c o e=>Ap e hfresh;refine⟨.ref s.heap.objs.size,upd H s.heap.objs.size (.tup [x,y]),?_,rfl,⟨s.heap.objs.size,x,y,hfresh,rfl,rfl,fun zs q=>by rw[I.list_inj q Ur];exact hx,fun zs q=>by rw[I.list_inj q d9];exact hy⟩,⟨zF,tK,⟨_,_,tG⟩,hi1,hi2⟩,fun c hc=>?_⟩
  . refine Inv.step (s:=s) (h':=h3) (t':=s.toks) (H':=upd H s.heap.objs.size (.tup [x,y])) I (g':=s.gens) (d':=s.drawn) (ch:=[z,TI,TO,i1,i2]) (fun c hc=>?_) (fun c o _ _ hc e _=>kk c o hc e) (fun c o _ _ hc e _=>⟨o.slots,kk c o hc e⟩) (fun c o hc e n=>?_) (fun c o hc e=>⟨o,kk c o hc e⟩)
     (fun c zs e=>by rw[Ae (Qh c _ e)];exact e) (fun c o w' e=>by rw[Ae (Qh c _ e)];exact e) (fun c ps e=>⟨#[],by rw[Ae (Qh c _ e),e];simp⟩) (fun m hm=>?_) (fun c w' e=>?_) I.bare
    . have f:=hf c hc;exact⟨f.2.2.2.1,f.2.1,f.2.2.2.2.1,f.2.2.2.2.2⟩
    . rw[Ae (Nat.ne_of_lt (Heap.lt_size e))];exact n
    . obtain⟨o,es',ep,ho,r⟩:=hm;exact⟨o,es',ep,kk _ o (fun q=>(hf _ q).2.1 rfl) ho,r⟩
    . by_cases hcs:c=s.heap.objs.size
      . subst hcs;rw[Ad]at e;cases e;exact⟨(by show(2:Nat)<=sizeLine;decide),[u,v],.cons ru (.cons rv .nil),⟨_,PU,rfl,rfl,_,rfl⟩⟩
      . rw[Ae hcs]at e;refine(I.hok c w' e).stay (fun c' y' hc' q=>?_) (fun c' q=>by rw[Ae (Qh c' _ q)];exact q) fun c' zs q=>by rw[Ae (Qh c' _ q)];exact q
        rcases hc' with rfl | hc'
        . exact kk _ _ (Y7 _ _ e) q
        . exact kk _ _ (Y7 _ _ hc') q
  . have lb:c<s.heap.objs.size:=by
     simp only[List.mem_cons,List.not_mem_nil,or_false]at hc;obtain⟨o1,q1,_⟩:=h1;obtain⟨o2,q2,_⟩:=h2;rcases hc with rfl | rfl | rfl | rfl | rfl
     . exact vO
     . exact Heap.lt_size hTI
     . exact Heap.lt_size hTO
     . exact Heap.lt_size q1
     . exact Heap.lt_size q2
    rw[Ae (Nat.ne_of_lt lb)];exact(hf c hc).1
 done:=by
  intro X hP hw hK hc i Ac s σ H E I hf st hg;subst hP hw hK;obtain⟨hz,hTI,⟨u0,v0,hTO⟩,h1,h2⟩:=st;obtain⟨xs,ys,Ur,d9,hx⟩:=hg;obtain⟨ia,ra,pa,_⟩:=I.list Ur;obtain⟨ib,rb,pb,_⟩:=I.list d9;have la:=ra.length;have lb:=rb.length;refine wpAny_pyNext_zip_end (I.ok.hd hc) D hz hTI hTO h1 h2 pa.isList pb.isList ?_ fun h' hk=>⟨rfl,I.turnedN (t':=s.toks) (fp:=[z,TI,TO,i1,i2]) (fun c o hc e=>?_) hf⟩
  . rcases hx with q | q
    . exact .inl (by simp;omega)
    . exact .inr (by simp;omega)
  . simp only[List.mem_cons,List.not_mem_nil,or_false,not_or]at hc;obtain⟨n1,n2,n3,n4,n5⟩:=hc;exact hk c o n1 n3 n4 n5 e
 self:=fun _ _ _ _ _ st h=>wpAny_pyIter_zip st.1 h
def zE(K:W.Frag)(ta:TA):TI:=fun σ H R=>ta σ H fun vs H1=>∃a b,vs=[.ref a,.ref b]/\(∃xs,SqL K H1 a xs)/\(∃ys,SqL K H1 b ys)/\R (WX K a b) H1
theorem JX:bootBuiltins "zip"=some (.type "zip"):=by decide +kernel
theorem RV{X:Cx}{K:W.Frag}{es:List Expr}{x1:Nat}{tpos:Pos}{a b:Expr}{ta:TA}{p pos:Pos}(hg:Gl X "zip")(hm:X.mg "zip"=none)(ha:PA X [a,b] ta)(hK:X.K=K:=by rfl)(hs:starEach [a,b] X.env=[(false,eval a X.env),(false,eval b X.env)]:=by rfl)(hs2:starEach [b] X.env=[(false,eval b X.env)]:=by rfl) :
 PI X (.Tuple es x1 tpos) (.Call (.Name "zip" p) [a,b] [] pos) (zE K ta):=by
 subst hK;intro Ac s σ H R I h;refine Call_ (Ja I hg hm JX (PyProof.Rows.callWith_type1 (Bu (ha pos Ac s σ H _ I h) fun us s1 ⟨vs,H1,I1,r1,q1⟩=>?_) (by rw[hs,hs2]) (by rw[hs2];rfl)));obtain⟨la,lb,e,⟨xs,Ur⟩,⟨ys,d9⟩,q⟩:=q1;subst e;cases r1 with
 | cons ra rr =>
   cases rr with
   | cons rb rr =>
     cases rr;cases ra;cases rb;obtain⟨ia,_,pa,_⟩:=I1.list Ur;obtain⟨ib,_,pb,_⟩:=I1.list d9;have a1:la<s1.heap.objs.size:=by obtain⟨_,e,_⟩:=pa.isList;exact Heap.lt_size e
     have a2:lb<s1.heap.objs.size:=by obtain⟨_,e,_⟩:=pb.isList;exact Heap.lt_size e
     refine call_zip_2 pa.isList pb.isList fun h' hz hTI hTO hi1 hi2 hsz hk=>?_;refine wpAny_pyIter_zip hz ⟨s1.heap.objs.size+4,[s1.heap.objs.size+4,s1.heap.objs.size+2,s1.heap.objs.size+3,s1.heap.objs.size,s1.heap.objs.size+1],_,_,H1,rfl,I1.kept (t':=s1.toks) hk,kO la lb _ _ _ _ _ (zipApart_new a1 a2),⟨hz,hTI,⟨_,_,hTO⟩,hi1,hi2⟩,fun c hc=>?_,q⟩
     have lc:s1.heap.objs.size<=c:=by
      simp only[List.mem_cons,List.not_mem_nil,or_false]at hc;rcases hc with rfl | rfl | rfl | rfl | rfl
      . exact Nat.le_add_right _ _
      . exact Nat.le_add_right _ _
      . exact Nat.le_add_right _ _
      . exact Nat.le_refl _
      . exact Nat.le_add_right _ _
     exact I1.fpOk lc (I1.hok.fresh lc)
section
variable{g:TG}{tc:TT}{te:TE}{D:Addr}{Q:Hp->Prop}{τ:St}{H:Hp}
theorem PZ{K:W.Frag}{a b:Addr}{xs ys:List V}{n:Nat}{g:TG}{tb:TS}{D:Ends}{σ:St}{H:Hp}(hn:n=min xs.length ys.length)(Pv:Nat->St->Hp->Prop)(h0:Pv 0 σ H)(hl:∀i σ H,i<=n->Pv i σ H->SqL K H a xs/\SqL K H b ys)
 (hs:∀i x y σ H p,xs[i]?=some x->ys[i]?=some y->Pv i σ H->H p=none->g (.ref p) σ (upd H p (.tup [x,y])) fun σ2 H2=>tb { D with nx:=Pv (i+1),ct:=Pv (i+1),bk:=D.nx } σ2 H2) (hd:∀σ H,Pv n σ H->D.nx σ H) :
 ∃W:Nat->Nat->St->Hp->Prop,(∃m,W 0 m σ H)/\∀i m σ H,W i m σ H →
   ((WX K a b).stop i H/\D.nx σ H)\/((WX K a b).go i H/\∃N:St->Hp->Prop,(∀σ' H',N σ' H'->∃m',m'<m/\W (i+1) m' σ' H')/\∀x H',(WX K a b).yld i H x H'->g x σ H' fun σ2 H2=>tb { D with nx:=N,ct:=N,bk:=D.nx } σ2 H2):=by
 refine⟨fun i m σ H=>m=n-i/\i<=n/\Pv i σ H,⟨n,by simp,Nat.zero_le _,h0⟩,?_⟩;rintro i m σ H ⟨rfl,hi,pp⟩;obtain⟨qa,qb⟩:=hl i σ H hi pp;by_cases hlt:i<n
 . refine .inr ⟨⟨xs,ys,xs[i],ys[i],qa,qb,by simp<;>omega,by simp<;>omega⟩,Pv (i+1),fun σ' H' p'=>⟨n-(i+1),by omega,rfl,hlt,p'⟩,fun x H' y=>?_⟩;obtain⟨p,u,v,hp,rfl,rfl,y1,y2⟩:=y;exact hs i u v σ _ p (y1 xs qa) (y2 ys qb) pp hp
 . have e:i=n:=by omega
   subst e;exact .inl ⟨⟨xs,ys,qa,qb,by omega⟩,hd σ H pp⟩
end
theorem op_mulX{X:Cx}:OpR X (binaryOp .Mult) (rI IntMulOk fun i j=>.int (i*j)):=opI fun _ _ _ _ _ _ _ hc q=>mul_int q hc
theorem My{i j:Int}(h1:-(2 ^ 64)<i)(h2:i<2 ^ 64):IntMulOk i j:=qI.ok (.inl ⟨h1,h2⟩)
theorem z8{i j:Int}(h1:-(2 ^ 64)<j)(h2:j<2 ^ 64):IntMulOk i j:=qI.ok (.inr ⟨h1,h2⟩)
end L2
namespace L2
open PySem PySem.W PySem.Calls PyProof.Rows
end L2
namespace L2
open PySem PySem.Spec PyProof.Rows
section
variable{X:Cx}{Ac:LAObj}{σ:St}{H:Hp}{s:Shared}{a:Addr}{kvs:List (Key × V)}
theorem Inv.freeze(I:Inv X Ac σ H s)(e:H a=some (.dK kvs)):∃o,Inv X Ac σ (upd H a (.frz o (.dK kvs))) s:=by
 obtain⟨z,y,vs,r,o,es,ep,ho,c⟩:=id (I.hok a _ e);refine⟨o,?_⟩;have ne:∀b u,H b=some u->u≠.dK kvs->b≠a:=fun b u q n z=>by rw[z,e]at q;exact n (Option.some.inj q).symm
 have up:∀b u,H b=some u->u≠.dK kvs->upd H a (.frz o (.dK kvs)) b=some u:=fun b u q n=>by rw[Ae (ne b u q n)];exact q
 refine I.step (g':=s.gens) (t':=s.toks) (d':=s.drawn) (h':=s.heap) (H':=upd H a (.frz o (.dK kvs))) (ch:=[]) (fun _ q=>nomatch q) (fun b ob _ _ _ q _=>q) (fun b ob _ _ _ q _=>⟨ob.slots,q⟩) (fun b ob _ q n=>by rw[Ae (fun z=>by rw[z,e]at n;cases n)];exact n) (fun b ob _ q=>⟨ob,q⟩)
  (fun b xs q=>up b _ q (by intro z;cases z)) (fun b ob u q=>up b _ q (by intro z;cases z)) (fun b ps q=>⟨#[],by rw[up b _ q (by intro z;cases z)];simp⟩) (fun m q=>q) (fun b u q=>?_) I.bare
 by_cases hb:b=a
 . subst hb;rw[Ad]at q;cases q;exact⟨ho,(I.hok b _ e).stay (fun _ _ _ q=>q) (fun c q=>up c _ q (by intro z;cases z)) fun c xs q=>up c _ q (by intro z;cases z)⟩
 . rw[Ae hb]at q;exact(I.hok b u q).stay (fun _ _ _ q=>q) (fun c q=>up c _ q (by intro z;cases z)) fun c xs q=>up c _ q (by intro z;cases z)
theorem Inv.thaw{o:Obj}(I:Inv X Ac σ H s)(e:H a=some (.frz o (.dK kvs)))(hb:∀ob u,X.H₀ a≠some (.frz ob u)):Inv X Ac σ (upd H a (.dK kvs)) s:=by
 have ne:∀b u,H b=some u->u≠.frz o (.dK kvs)->b≠a:=fun b u q n z=>by rw[z,e]at q;exact n (Option.some.inj q).symm
 have up:∀b u,H b=some u->u≠.frz o (.dK kvs)->upd H a (.dK kvs) b=some u:=fun b u q n=>by rw[Ae (ne b u q n)];exact q
 have no:∀b,H b=none->upd H a (.dK kvs) b=none:=fun b n=>by rw[Ae (fun z=>by rw[z,e]at n;cases n)];exact n
 refine⟨I.ok,I.os,I.bare,⟨I.base.keep,I.base.slot,fun b ob q n x=>no b (I.base.free b ob q n x),I.base.there,fun b xs q=>up b _ (I.base.tups b xs q) (by intro z;cases z),fun b ob u q=>?_,fun b ps q=>?_⟩,I.loc,I.cell,no _ I.free,fun x c q=>no _ (I.freeC x c q),fun p hp=>?_,fun b u q=>?_,I.len⟩
 . have hne:b≠a:=fun z=>hb ob u (z▸q);rw[Ae hne];exact I.base.frzs b ob u q
 . obtain⟨m,q'⟩:=I.base.tbls b ps q;exact⟨m,up b _ q' (by intro z;cases z)⟩
 . obtain⟨p1,p2,p3⟩:=I.pin p hp;exact⟨p1,no _ p2,p3⟩
 . by_cases hba:b=a
   . subst hba;rw[Ad]at q;cases q;obtain⟨_,q'⟩:=I.hok b _ e;exact q'.stay (fun _ _ _ q=>q) (fun c q=>up c _ q (by intro z;cases z)) fun c xs q=>up c _ q (by intro z;cases z)
   . rw[Ae hba]at q;exact(I.hok b u q).stay (fun _ _ _ q=>q) (fun c q=>up c _ q (by intro z;cases z)) fun c xs q=>up c _ q (by intro z;cases z)
theorem Inv.notfrz(I:Inv X Ac σ H s)(e:H a=some (.dK kvs)):∀ob u,X.H₀ a≠some (.frz ob u):=fun ob u q=>by
 have:=I.base.frzs a ob u q;rw[e]at this;cases this
theorem Inv.nodupK(I:Inv X Ac σ H s)(e:Rd H a (.dK kvs)):(kvs.map (·.1)).Nodup:=by
 obtain⟨z,hd,vs,rel,o,es,ep,_,_,_,_,_,hn⟩:=J2 I.hok e;rw[rel.keys];exact hn
end
def tFrz(t:TE):TE:=fun σ H Q=>t σ H Q\/∃(a:Addr) (kvs:List (Key × V)),H a=some (.dK kvs)/\((kvs.map (·.1)).Nodup->∀o:Obj,t σ (upd H a (.frz o (.dK kvs))) fun v H'=>H' a=some (.frz o (.dK kvs))/\Q v (upd H' a (.dK kvs)))
def YN(t:TS):TS:=fun D σ H=>t D σ H\/∃(a:Addr) (kvs:List (Key × V)),H a=some (.dK kvs)/\((kvs.map (·.1)).Nodup->∀o:Obj,t ⟨fun σ' H'=>H' a=some (.frz o (.dK kvs))/\D.nx σ' (upd H' a (.dK kvs)),fun v H'=>H' a=some (.frz o (.dK kvs))/\D.rt v (upd H' a (.dK kvs)),
 fun σ' H'=>H' a=some (.frz o (.dK kvs))/\D.bk σ' (upd H' a (.dK kvs)),fun σ' H'=>H' a=some (.frz o (.dK kvs))/\D.ct σ' (upd H' a (.dK kvs))⟩ σ (upd H a (.frz o (.dK kvs))))
theorem dX{X:Cx}{e:Expr}{t:TE}(h:PE X e t):PE X e (tFrz t):=by
 intro Ac s σ H Q I hw;rcases hw with hw|⟨a,kvs,ea,hw⟩
 . exact h Ac s σ H Q I hw
 . obtain⟨o,I'⟩:=I.freeze ea;have hb:=I.notfrz ea;refine Bu (h Ac s σ _ _ I' (hw (I.nodupK (.inl ea)) o)) fun u s' ⟨v,H',I2,r,e2,q⟩=>⟨v,_,I2.thaw e2 hb,r,q⟩
theorem DS{X:Cx}{st:Stmt}{t:TS}(h:PS X st t):PS X st (YN t):=by
 intro Ac s σ H D I hw;rcases hw with hw|⟨a,kvs,ea,hw⟩
 . exact h Ac s σ H D I hw
 . obtain⟨o,I'⟩:=I.freeze ea;have hb:=I.notfrz ea;refine Bu (h Ac s σ _ _ I' (hw (I.nodupK (.inl ea)) o)) fun f s' hq=>?_;cases f with
   | next=>obtain⟨σ',H',I2,e2,q⟩:=hq;exact⟨σ',_,I2.thaw e2 hb,q⟩
   | brk=>obtain⟨σ',H',I2,e2,q⟩:=hq;exact⟨σ',_,I2.thaw e2 hb,q⟩
   | cont=>obtain⟨σ',H',I2,e2,q⟩:=hq;exact⟨σ',_,I2.thaw e2 hb,q⟩
   | ret u=>obtain⟨v,σ',H',I2,r,e2,q⟩:=hq;exact⟨v,σ',_,I2.thaw e2 hb,r,q⟩
theorem EY{X:Cx}{Ac:LAObj}{σ:St}{H:Hp}{s:Shared}{a:Addr}{kvs:List (Key × V)}{o:Obj}(I:Inv X Ac σ H s)(e:H a=some (.frz o (.dK kvs))) :
 s.heap.get? a=some o/\(a==sysModules)=false/\kvs.length<=sizeLine/\∃vs es ep,KV kvs vs/\o.data=.dict es ep/\es.size=kvs.length/\o.ExactDict/\s.heap.DictAt (mixKind X.prog X.w) a vs ep:=by
 obtain⟨ho,z,y,vs,r,o',es,ep,ho',ex,hd,hk,hp,hn⟩:=I.hok a _ e;rw[ho]at ho';cases ho';refine⟨ho,y,z,vs,es,ep,r,hd,?_,ex,⟨o,es,ho,ex,hd,hk,hp,hn⟩⟩;rw[r.length,←hp.length];simp
theorem KV.getV:∀{kvs:List (Key × V)}{vs:List (Key × Value)}{i:Nat}{k:Key}{v:V},KV kvs vs->kvs[i]?=some (k,v)->∃u,vs[i]?=some (k,u)/\RelV v u
 | _,_,i,k,v,.nil,e=>by simp at e
 | _,_,0,k,v,.cons (b:=q) r t,e=>by
   simp only[List.getElem?_cons_zero,Option.some.injEq]at e;subst e;obtain⟨k',u⟩:=q;have e1:k=k':=r.1;subst e1;exact⟨u,by simp,r.2⟩
 | _,_,i+1,k,v,.cons r t,e=>by
   obtain⟨u,e1,e2⟩:=KV.getV (i:=i) t (by simpa using e);exact⟨u,by simpa using e1,e2⟩
theorem MR{P:Program}{w:World}{k:Key}{u:Value}(h:(mixKind P w).is k u=true):RelV (kV k) u:=by
 rcases B4 h with⟨i,t,rfl,rfl⟩|⟨x,t,rfl,rfl⟩
 . exact⟨t,rfl⟩
 . exact⟨t,rfl⟩
def UA(d:Addr)(o:Obj):It :=
 ⟨fun i H=>∃kvs k v,H d=some (.frz o (.dK kvs))/\kvs[i]?=some (k,v),
  fun i H x H'=>∃p k v,H p=none/\x=.ref p/\H'=upd H p (.tup [kV k,v])/\∀kvs,H d=some (.frz o (.dK kvs))->kvs[i]?=some (k,v),
  fun i H=>∃kvs,H d=some (.frz o (.dK kvs))/\kvs.length<=i⟩
theorem Uf{prog:Program}{w:World}{A:Around}{E:Value->Shared->Prop}{s:Shared}{it d:Addr}{i n ep:Nat}{ok ov:Value}{Q:Value->Shared->Prop}(hit:IsItemIter s.heap it d i n ep ok ov)(h:Q (.ref it) s):wpAny (model prog w) A (pyIter (.ref it)) Q E s:=by
 have hT:s.TypeIs (.ref it) "dict_itemiterator":=⟨_,hit,rfl⟩
 refine wpAny_pyIter_slot hT PySem.F.slot_dict_itemiterator_iter (wpAny_call_entry PySem.F.slot_dict_itemiterator_iter hT (entryFor_alias (id':="dict_keyiterator.__iter__") (by kernel_rfl) rfl (by decide +kernel) (by kernel_rfl):entryFor table "dict_itemiterator.__iter__"=some Builtin.«dict_keyiterator.__iter__») ?_ (PySem.F.args_dict_itemiterator_iter_1 _));show wpAny _ _ (ret (.ref it)) _ _ s;exact wpAny_pure ⟨_,rfl,"dict_itemiterator",_,hT,PySem.F.slot_dict_itemiterator_next.lookup,h⟩
theorem DI{P:Program}{w:World}{K:W.Frag}{YH:List Expr}{x1:Nat}{tpos:Pos}(d it:Addr)(o:Obj){es:Array DictEntry}{ep:Nat}(hd:o.data=.dict es ep) :
 Uy P w K (.Tuple YH x1 tpos) (UA d o) [it] it (fun i h=>∃ok ov,IsItemIter h it d i es.size ep ok ov) where
 mem:=by simp
 obj:=fun i h st b hb=>by
  obtain⟨ok,ov,h1⟩:=st;have z:b=it:=by simpa using hb
  subst z;exact⟨_,h1,fun v q=>by cases (show Data.fields _=Data.cell v from q)⟩
 keep:=fun i h h' st k=>by
  obtain⟨ok,ov,h1⟩:=st;exact⟨ok,ov,k it (by simp) _ h1⟩
 item:=by
  intro X hP hw hK hc i Ac s σ H E I hf st hg;subst hP hw hK;obtain⟨ok,ov,hit⟩:=st;obtain⟨kvs,k,v,hz,hx⟩:=hg;obtain⟨ho,hsys,hl,vs,es',QW,rel,hd',hsz,ex,hm⟩:=EY I hz;rw[hd]at hd';cases hd';obtain⟨u,hu,ru⟩:=rel.getV hx;have hn:es.size=vs.length:=by rw[hsz,rel.length]
  have fi:=hf it (by simp);have lti:it<s.heap.objs.size:=Heap.lt_size hit;have hfresh:H s.heap.objs.size=none:=I.hok.fresh (Nat.le_refl _);rw[hn]at hit;refine wpAny_pyNext_items_item hit hm hu fun key h' hkey hout htup hsz' hk=>?_;refine⟨_,rfl,wpAny_letOwnedTupleGo_items hout fun h3 hen Ka=>?_⟩
  replace Ka:Heap.SameBut it h' h3:=Ka
  have kk:∀b ob,b ∉ [it]->s.heap.get? b=some ob->h3.get? b=some ob:=fun b ob n z=>by
   have n1:b≠it:=by simpa using n
   exact(Ka.2 b n1).trans (hk b ob n1 z)
  have PU:h3.get? s.heap.objs.size=some { cls:=.type "tuple",data:=.seq #[key,u] }:=(Ka.2 _ (Nat.ne_of_gt lti)).trans htup;have Y7:∀c ob,H c=some ob->c ∉ [it]:=fun c ob e hm=>by rw[(hf c hm).1]at e;cases e
  have Qh:∀b ob,H b=some ob->b≠s.heap.objs.size:=fun b ob z=>Ap z hfresh;refine⟨.ref s.heap.objs.size,upd H s.heap.objs.size (.tup [kV k,v]),?_,rfl,⟨s.heap.objs.size,k,v,hfresh,rfl,rfl,fun kvs' q=>by rw[hz]at q;cases q;exact hx⟩,⟨_,_,by rw[hn];exact hen⟩,fun b hb=>?_⟩
  . refine Inv.step (s:=s) (h':=h3) (t':=s.toks) (H':=upd H s.heap.objs.size (.tup [kV k,v])) I (g':=s.gens) (d':=s.drawn) (ch:=[it]) (fun b hb=>?_) (fun b ob _ _ hb z _=>kk b ob hb z) (fun b ob _ _ hb z _=>⟨ob.slots,kk b ob hb z⟩) (fun b ob hb z n=>?_) (fun b ob hb z=>⟨ob,kk b ob hb z⟩)
     (fun b ys z=>by rw[Ae (Qh b _ z)];exact z) (fun b ob w' z=>by rw[Ae (Qh b _ z)];exact z) (fun b ps z=>⟨#[],by rw[Ae (Qh b _ z),z];simp⟩) (fun m hm=>?_) (fun b w' z=>?_) I.bare
    . have f:=hf b hb;exact⟨f.2.2.2.1,f.2.1,f.2.2.2.2.1,f.2.2.2.2.2⟩
    . rw[Ae (Nat.ne_of_lt (Heap.lt_size z))];exact n
    . obtain⟨ob,es',QW,hob,r⟩:=hm;exact⟨ob,es',QW,kk _ ob (fun q=>(hf _ q).2.1 rfl) hob,r⟩
    . by_cases hb:b=s.heap.objs.size
      . subst hb;rw[Ad]at z;cases z;exact⟨(by show(2:Nat)<=sizeLine;decide),[key,u],.cons (MR hkey) (.cons ru .nil),⟨_,PU,rfl,rfl,_,rfl⟩⟩
      . rw[Ae hb]at z;refine(I.hok b w' z).stay (fun c y hc' q=>?_) (fun c q=>by rw[Ae (Qh c _ q)];exact q) fun c ys q=>by rw[Ae (Qh c _ q)];exact q
        rcases hc' with rfl | hc'
        . exact kk _ _ (Y7 _ _ z) q
        . exact kk _ _ (Y7 _ _ hc') q
  . have z:b=it:=by simpa using hb
    subst z;rw[Ae (Nat.ne_of_lt lti)];exact(hf b hb).1
 done:=by
  intro X hP hw hK hc i Ac s σ H E I hf st hg;subst hP hw hK;obtain⟨ok,ov,hit⟩:=st;obtain⟨kvs,hz,hx⟩:=hg;obtain⟨ho,hsys,hl,vs,es',QW,rel,hd',hsz,ex,hm⟩:=EY I hz;rw[hd]at hd';cases hd';have hn:es.size=vs.length:=by rw[hsz,rel.length]
  have hl2:=rel.length;rw[hn]at hit;exact wpAny_pyNext_items_end (I.ok.hd hc) hit hm (by simp;omega) fun h' eb=>⟨rfl,I.turnedN (t':=s.toks) (fp:=[it]) (fun b ob hb z=>eb b ob (by simpa using hb) z) hf⟩
 self:=fun _ _ _ _ _ st h=>by
  obtain⟨ok,ov,hit⟩:=st;exact Uf hit h
def sV(td:TE):TI:=fun σ H R=>td σ H fun x H1=>∃d o kvs,x=.ref d/\H1 d=some (.frz o (.dK kvs))/\R (UA d o) H1
theorem Js{X:Cx}{YH:List Expr}{x1:Nat}{tpos apos cpos:Pos}{e:Expr}{td:TE}(he:PE X e td)
 (hbase:attributeBase e "items" X.env (eval e X.env)=eval e X.env:=by rfl) (hline:(apos.endLine==cpos.line)=true:=by rfl):PI X (.Tuple YH x1 tpos) (.Call (.Attribute e "items" apos) [] [] cpos) (sV td):=by
 intro Ac s σ H R I h;refine wpAny_Call_method0_late hbase hline (Bu (he Ac s σ H _ I h) fun v s1 ⟨x,H1,I1,r1,d,o,kvs,ex,hz,q⟩=>?_);subst ex;obtain rfl:v=Value.ref d:=r1;obtain⟨ho,hsys,hl,vs,es,ep,rel,hd,hsz,exd,hm⟩:=EY I1 hz;refine⟨"dict","dict.items",PySem.F.plainAttrs_dict,PySem.F.slot_dict_items,PySem.F.type_dict_items,⟨o,ho,exd.1⟩,fun b e=>by cases e;exact⟨o,ho,exd.2.1⟩,Calls.callWith_builtin rfl (PySem.evalArgs_none ?_)⟩;refine call_meetsIn PySem.F.slot_dict_items hm.dictOf.typeIs PySem.F.entry_dict_items (PySem.F.args_dict_items_1 _) (meets_dict_items (mixKind X.prog X.w) d hsys) ⟨⟨vs,hm.dictOf⟩,?_⟩;have I2:Inv X Ac σ H1 { s1 with heap:=s1.heap.push { cls:=.type "dict_items",data:=.fields #[.ref d] } }:=I1.kept (t':=s1.toks) fun b ob z=>Heap.get?_push_of_some _ z;have hm2:=hm.push { cls:=.type "dict_items",data:=.fields #[.ref d] };refine wpAny_pyIter_items (s:={ s1 with heap:=s1.heap.push { cls:=.type "dict_items",data:=.fields #[.ref d] } }) (v:=s1.heap.objs.size) (d:=d) ⟨_,Heap.get?_push_size _ rfl,rfl,rfl⟩ hm2 ?_;have hsz2:(s1.heap.push { cls:=.type "dict_items",data:=.fields #[.ref d] }).objs.size=s1.heap.objs.size+1:=Heap.size_push ..;refine⟨_,[_],_,UA d o,H1,rfl,I2.kept (t':=s1.toks) fun b ob z=>Heap.get?_push_of_some _ z,DI d _ o hd,⟨.none,.none,?_⟩,fun b hb=>?_,q⟩
 . rw[hsz,rel.length];exact Heap.get?_push_size _ rfl
 . have z:b=(s1.heap.push { cls:=.type "dict_items",data:=.fields #[.ref d] }).objs.size:=by simpa using hb
   subst z;exact I2.fpOk (Nat.le_refl _) (I2.hok.fresh (Nat.le_refl _))
section
variable{g:TG}{tc:TT}{te:TE}{D:Addr}{Q:Hp->Prop}{τ:St}{H:Hp}
theorem Pq{d:Addr}{o:Obj}{kvs:List (Key × V)}(Pv:Nat->List V->St->Hp->Prop)(h0:Pv 0 [] τ H)(hl:∀i zs τ H,i<=kvs.length->Pv i zs τ H->H d=some (.frz o (.dK kvs)))
 (hs:∀i k v zs τ H p,kvs[i]?=some (k,v)->Pv i zs τ H->H p=none->g (.ref p) τ (upd H p (.tup [kV k,v])) fun τ2 H2=>tc τ2 H2 fun b H3=>if b=true then te τ2 H3 fun y H4=>H4 D=some (.lst zs)/\zs.length<sizeLine/\Pv (i+1) (zs++[y]) τ2 (upd H4 D (.lst (zs++[y]))) else Pv (i+1) zs τ2 H3)
 (hd:∀zs τ H,Pv kvs.length zs τ H->Q H):Qz (UA d o) g tc te D Q τ H:=by
 refine⟨fun i m zs τ H=>m=kvs.length-i/\i<=kvs.length/\Pv i zs τ H,⟨kvs.length,by simp,Nat.zero_le _,h0⟩,?_⟩;rintro i m zs τ H ⟨rfl,hi,pp⟩;have q:=hl i zs τ H hi pp;by_cases hlt:i<kvs.length
 . refine .inr ⟨⟨kvs,kvs[i].1,kvs[i].2,q,by simp[hlt]⟩,Pv (i+1),fun ys' τ' H' p'=>⟨kvs.length-(i+1),by omega,rfl,hlt,p'⟩,fun x H' y=>?_⟩;obtain⟨p,k,v,hp,rfl,rfl,y⟩:=y;exact hs i k v zs τ _ p (y kvs q) pp hp
 . have e:i=kvs.length:=by omega
   subst e;exact .inl ⟨⟨kvs,q,Nat.le_refl _⟩,hd zs τ H pp⟩
theorem S0{d:Addr}{o:Obj}{kvs:List (Key × V)}{g:TG}{tb:TS}{D:Ends}{σ:St}{H:Hp}(Pv:Nat->St->Hp->Prop)(h0:Pv 0 σ H)(hl:∀i σ H,i<=kvs.length->Pv i σ H->H d=some (.frz o (.dK kvs)))
 (hs:∀i k v σ H p,kvs[i]?=some (k,v)->Pv i σ H->H p=none->g (.ref p) σ (upd H p (.tup [kV k,v])) fun σ2 H2=>tb { D with nx:=Pv (i+1),ct:=Pv (i+1),bk:=D.nx } σ2 H2) (hd:∀σ H,Pv kvs.length σ H->D.nx σ H) :
 ∃W:Nat->Nat->St->Hp->Prop,(∃m,W 0 m σ H)/\∀i m σ H,W i m σ H →
   ((UA d o).stop i H/\D.nx σ H)\/((UA d o).go i H/\∃N:St->Hp->Prop,(∀σ' H',N σ' H'->∃m',m'<m/\W (i+1) m' σ' H')/\∀x H',(UA d o).yld i H x H'->g x σ H' fun σ2 H2=>tb { D with nx:=N,ct:=N,bk:=D.nx } σ2 H2):=by
 refine⟨fun i m σ H=>m=kvs.length-i/\i<=kvs.length/\Pv i σ H,⟨kvs.length,by simp,Nat.zero_le _,h0⟩,?_⟩;rintro i m σ H ⟨rfl,hi,pp⟩;have q:=hl i σ H hi pp;by_cases hlt:i<kvs.length
 . refine .inr ⟨⟨kvs,kvs[i].1,kvs[i].2,q,by simp[hlt]⟩,Pv (i+1),fun σ' H' p'=>⟨kvs.length-(i+1),by omega,rfl,hlt,p'⟩,fun x H' y=>?_⟩;obtain⟨p,k,v,hp,rfl,rfl,y⟩:=y;exact hs i k v σ _ p (y kvs q) pp hp
 . have e:i=kvs.length:=by omega
   subst e;exact .inl ⟨⟨kvs,q,Nat.le_refl _⟩,hd σ H pp⟩
end
end L2
namespace L2
open PySem PySem.Spec PyProof.Rows PySem.SeqAt
theorem MS{P:Program}{w:World}{es:List DictEntry}{vs:List (Key × Value)}(hp:Pairs (mixKind P w) es vs):∀{ms:List (Int × Int)},(∀e∈es,∃k,(mixKind P w).is k e.key=true/\e.hash=(mixKind P w).hash k)->KV (cK ms) vs->L3 es ms:=by
 induction hp with
 | nil =>
   intro ms _ r;cases ms with
   | nil=>exact .nil
   | cons p ms=>cases r
 | @cons e kv es kvs h1 h2 _ ih =>
   intro ms hk r;cases ms with
   | nil=>cases r
   | cons p ms =>
     cases r with
     | cons r0 r1 =>
       obtain⟨k,v⟩:=kv;obtain⟨e1,t',e2⟩:=r0;have e1':Sum.inl p.1=k:=e1;subst e1';obtain⟨t,ek⟩:=(show ∃t,e.key=Value.int p.1 t from MR h1)
       obtain⟨k',hk1,hk2⟩:=hk e (List.mem_cons_self ..)
       have ek':k'=Sum.inl p.1:=by
        rw[ek]at hk1;rcases B4 hk1 with⟨i,t2,z1,z2⟩|⟨x,t2,z1,z2⟩
        . cases z2;exact z1
        . cases z2
       subst ek';obtain⟨p1,p2⟩:=p;exact .cons ek hk2 (h2.trans e2) (ih (fun e' he=>hk e' (List.mem_cons_of_mem _ he)) r1)
theorem Qi{ms:List (Int × Int)}:((cK ms).map (·.1)).Nodup↔(ms.map (·.1)).Nodup:=by
 unfold cK List.Nodup;rw[List.map_map,List.pairwise_map,List.pairwise_map];constructor
 . intro h;exact h.imp fun {a b} n z=>n (by simp[z])
 . intro h;exact h.imp fun {a b} n z=>n (by simpa using z)
section
variable{X:Cx}{Ac:LAObj}{σ:St}{H:Hp}{s:Shared}{a:Addr}{ms:List (Int × Int)}
theorem Inv.nodupC(I:Inv X Ac σ H s)(e:Rd H a (.dK (cK ms))):(ms.map (·.1)).Nodup:=Qi.mp (I.nodupK e)
theorem Inv.idict(I:Inv X Ac σ H s)(e:Rd H a (.dK (cK ms))):Q0 s.heap a ms:=by
 obtain⟨z,hd,vs,rel,o,es,ep,ho,ex,hda,hk,hp,hn⟩:=J2 I.hok e;exact⟨⟨o,es,ep,ho,ex,hda,MS hp (fun e he=>hk e (by simpa using he)) rel⟩,hd,I.nodupC e⟩
end
def sameC(ms ns:List (Int × Int)):Bool:=ms.length==ns.length&&ms.all fun p=>decide (lookI ns p.1=some p.2)
section
variable{X:Cx}{n:Nat}{K:W.Frag}
theorem cS:Ei X (.builtin "isinstance") (fun xs H Q=>∃a kvs,xs=[.ref a,.ty "dict"]/\Rd H a (.dK kvs)/\Q (.bl true) H):=by
 intro Ac s σ H xs us Q I r h;obtain⟨a,kvs,rfl,e,q⟩:=h;obtain⟨u,v,rfl,rx,rt⟩:=b6 r;cases rt;cases rx;obtain⟨z,hd,vs,rel,o,es,ep,ho,ex,_⟩:=J2 I.hok e;exact PySem.IsiPair.dict_dict ho ex.1 ⟨.bl true,H,I,rfl,q⟩
end
end L2
namespace L2
open PySem PySem.Spec PyProof.Rows
theorem Pu{X:Cx}:Ei X (.type "dict") (fun xs H Q=>∃a kvs,xs=[.ref a]/\Rd H a (.dK kvs)/\∀p,H p=none->Q (.ref p) (upd H p (.dK kvs))):=by
 intro Ac s σ H xs us Q I r h;obtain⟨a,kvs,rfl,e,q⟩:=h;obtain⟨u,rfl,rx⟩:=Md r;cases rx;exact nL I e fun p s' hp I'=>⟨.ref p,_,I',rfl,q p hp⟩
theorem u1{n c:Nat}(h:n+8<c):n+1<c:=by omega
def Au(ms:List (Int × Int))(k:Int):Int:=(lookI ms k).getD 0
def O9(ms:List (Int × Int))(k v:Int):List (Int × Int):=if (ms.any fun p=>decide (p.1=k))=true then ms.map (fun p=>if p.1=k then(p.1,v) else p) else ms++[(k,v)]
def J1(ms:List (Int × Int))(k:Int):List (Int × Int):=ms.filter fun p=>decide (p.1≠k)
theorem TV(ms:List (Int × Int))(k v:Int):Km (cK ms) (Sum.inl k) (V.int v)=cK (O9 ms k v):=by
 unfold Km O9 cK
 have e:((ms.map fun p=>((Sum.inl p.1:Key),V.int p.2)).any fun kv=>decide (kv.1=Sum.inl k))=(ms.any fun p=>decide (p.1=k)):=by
  rw[List.any_map]
  congr 1
  funext p
  simp
 rw[e];split
 . rw[List.map_map,List.map_map]
   congr 1
   funext p
   simp only[Function.comp];by_cases q:p.1=k
   . simp[q]
   . have q':¬(Sum.inl p.1:Key)=Sum.inl k:=fun z=>q (by simpa using z);simp[q]
 . simp
theorem GP(ms:List (Int × Int))(k:Int):Qv (cK ms) (Sum.inl k)=cK (J1 ms k):=by
 unfold Qv J1 cK;rw[List.filter_map]
 congr 1
 congr 1
 funext p
 simp
theorem Jb(ms:List (Int × Int))(k:Int):Ia (cK ms) (Sum.inl k)=(lookI ms k).map V.int:=by
 unfold lookI cK Ia;rw[List.find?_map,Option.map_map,Option.map_map]
 have e:((fun p:Key × V=>decide (p.1=Sum.inl k)) ∘ fun p:Int × Int=>((Sum.inl p.1:Key),V.int p.2))=fun p:Int × Int=>decide (p.1=k):=by
  funext p
  simp
 rw[e];rfl
theorem gP(ms:List (Int × Int))(k:Int):((lookI ms k).map V.int).getD (V.int 0)=V.int (Au ms k):=by
 unfold Au;cases lookI ms k<;>rfl
theorem B9(p:Int × Int)(ms:List (Int × Int))(k:Int):lookI (p::ms) k=if p.1=k then some p.2 else lookI ms k:=by
 unfold lookI;by_cases q:p.1=k
 . rw[List.find?_cons_of_pos (by simpa using q),if_pos q];rfl
 . rw[List.find?_cons_of_neg (by simpa using q),if_neg q]
theorem Ny(ms:List (Int × Int))(k v j:Int):lookI (O9 ms k v) j=if j=k then some v else lookI ms j:=by
 have hs:∀(ns:List (Int × Int)),lookI (ns.map (fun p=>if p.1=k then(p.1,v) else p)) j=if j=k then(lookI ns j).map (fun _=>v) else lookI ns j:=by
  intro ns
  induction ns with
  | nil=>simp[lookI]
  | cons p ns ih =>
    rw[List.map_cons,B9,B9,ih];by_cases e1:p.1=k
    . by_cases e2:j=k
      . simp[e1,e2]
      . have e3:¬k=j:=fun z=>e2 z.symm;simp[e1,e2,e3]
    . by_cases e2:j=k
      . simp[e1,e2]
      . simp[e1,e2]
 have hn:∀(ns:List (Int × Int)),(ns.any fun p=>decide (p.1=k))=(lookI ns k).isSome:=by
  intro ns
  induction ns with
  | nil=>rfl
  | cons p ns ih =>
    rw[List.any_cons,B9,ih];by_cases e1:p.1=k<;>simp[e1]
 have ha:∀(ns:List (Int × Int)),lookI (ns++[(k,v)]) j=(lookI ns j).or (if k=j then some v else none):=by
  intro ns
  induction ns with
  | nil=>simp[B9,lookI]
  | cons p ns ih =>
    rw[List.cons_append,B9,B9,ih];by_cases e1:p.1=j<;>simp[e1]
 unfold O9;rw[hn];cases q:lookI ms k with
 | some z =>
   simp only[Option.isSome_some,if_true];rw[hs];by_cases e:j=k
   . subst e;simp[q]
   . simp[e]
 | none =>
   simp only[Option.isSome_none,Bool.false_eq_true,if_false];rw[ha];by_cases e:j=k
   . subst e;simp[q]
   . have e':¬k=j:=fun z=>e z.symm;simp[e,e']
theorem Wm(ms:List (Int × Int))(k j:Int):lookI (J1 ms k) j=if j=k then none else lookI ms j:=by
 unfold J1
 induction ms with
 | nil=>simp[lookI]
 | cons p ms ih =>
   rw[List.filter_cons,B9];by_cases e1:p.1=k
   . rw[if_neg (by simpa using e1),ih];by_cases e2:j=k
     . simp[e2]
     . have e3:¬p.1=j:=fun z=>e2 (by rw[←z,e1]);simp[e2,e3]
   . rw[if_pos (by simpa using e1),B9,ih];by_cases e2:j=k
     . subst e2;simp[e1]
     . simp[e2]
inductive DA where
 | d (d:D) | dic
def Ac9(K:W.Frag)(H:Hp)(v:V):DA->Prop
 | .d d=>Rep K H v d
 | .dic=>∃a kvs,v=.ref a/\Rd H a (.dK kvs)
def isA(n:String):DA->Bool
 | .d d=>U7 n d
 | .dic=>n=="dict"
theorem jW{X:Cx}{K:W.Frag}(hK:X.K=K:=by rfl):Ei X (.builtin "isinstance") (fun xs H Q=>∃x n d,xs=[x,.ty n]/\(n="int"\/n="bool"\/n="str"\/n="tuple"\/n="list"\/n="dict")/\Ac9 K H x d/\Q (.bl (isA n d)) H):=by
 subst hK;intro Ac s σ H xs us Q I r h;obtain⟨x,n,d,e,hn,hx,q⟩:=h;cases d with
 | d d=>exact Nh Ac s σ H xs us Q I r ⟨x,n,d,e,hn,hx,q⟩
 | dic =>
   subst e;obtain⟨a,kvs,rfl,hr⟩:=hx;obtain⟨u,v,rfl,rx,rt⟩:=b6 r;cases rt;cases rx;obtain⟨z,hd,vs,rel,o,es,ep,ho,ex,_⟩:=J2 I.hok hr;rcases hn with rfl | rfl | rfl | rfl | rfl | rfl
   . exact PySem.IsiPair.dict_int ho ex.1 ⟨.bl false,H,I.tok _,rfl,q⟩
   . exact PySem.IsiPair.dict_bool ho ex.1 ⟨.bl false,H,I.tok _,rfl,q⟩
   . exact PySem.IsiPair.dict_str ho ex.1 ⟨.bl false,H,I.tok _,rfl,q⟩
   . exact PySem.IsiPair.dict_tuple ho ex.1 ⟨.bl false,H,I.tok _,rfl,q⟩
   . exact PySem.IsiPair.dict_list ho ex.1 ⟨.bl false,H,I.tok _,rfl,q⟩
   . exact PySem.IsiPair.dict_dict ho ex.1 ⟨.bl true,H,I,rfl,q⟩
section
variable{P:Program}{w:World}{K:W.Frag}{mg:Str->Option Value}{base:Heap}
end
section
variable{X:Cx}{x:Str}{ps:List Str}{j k:Nat}{sp:Sp}{p pos:Pos}{e:Expr}{es:List Expr}{t:TA}
end
mutual
def oN:D->PyData
 | .non=>.none
 | .bl b=>.bool b
 | .int i=>.int i
 | .str x=>.str x
 | .tup ds=>.tuple (toPDs ds)
 | .lst ds=>.list (toPDs ds)
def toPDs:List D->List PyData
 | []=>[]
 | d::ds=>oN d::toPDs ds
end
section
variable{X:Cx}{Ac:LAObj}{σ:St}{H:Hp}{s:Shared}
mutual
theorem LA(I:Inv X Ac σ H s):∀(d:D) {v:V}{u:Value},Rep X.K H v d->RelV v u->∃as,Reads s.heap u (oN d) as
 | .non,v,u,h,r=>by
   cases (show v=.non from h);obtain rfl:u=.none:=r;exact⟨_,.none⟩
 | .bl b,v,u,h,r=>by
   cases (show v=.bl b from h);obtain rfl:u=.bool b:=r;exact⟨_,.bool b⟩
 | .int i,v,u,h,r=>by
   cases (show v=.int i from h);obtain⟨t,rfl⟩:=r;exact⟨_,.int i t⟩
 | .str x,v,u,h,r=>by
   cases (show v=.str x from h);obtain⟨t,rfl⟩:=r;exact⟨_,.str x t⟩
 | .tup ds,v,u,h,r=>by
   obtain⟨a,vs,rfl,hq,hr⟩:=h;obtain rfl:u=.ref a:=r;obtain⟨its,rv,p,hz⟩:=I.tuple hq;obtain⟨o,ho,hc,n,hd⟩:=(show s.heap.IsTuple a its.toArray from p)
   obtain⟨as,ra⟩:=readsAll_of I ds hr rv;exact⟨as,.tuple ho hc hd (by simpa using ra)⟩
 | .lst ds,v,u,h,r=>by
   obtain⟨a,vs,rfl,hq,hr⟩:=h;obtain rfl:u=.ref a:=r;obtain⟨its,rv,p,hz⟩:=I.list hq;obtain⟨o,ho,hc,n,hd⟩:=p.isList;obtain⟨as,ra⟩:=readsAll_of I ds hr rv;exact⟨a::as,.list ho hc hd (by simpa using ra)⟩
theorem readsAll_of(I:Inv X Ac σ H s):∀(ds:List D) {vs:List V}{us:List Value},Reps X.K H vs ds->Vals vs us->∃as,ReadsAll s.heap us (toPDs ds) as
 | [],vs,us,h,r=>by
   cases (show vs=[] from h);cases r;exact⟨_,.nil⟩
 | d::ds,vs,us,h,r=>by
   obtain⟨v,q,rfl,hv,hq⟩:=h;cases r with
   | cons r1 r2 =>
     obtain⟨as,ra⟩:=LA I d hv r1;obtain⟨bs,rb⟩:=readsAll_of I ds hq r2;exact⟨_,.cons ra rb⟩
end
end
mutual
theorem aJ:∀d:D,(oN d).hasDict=false
 | .non=>rfl
 | .bl _=>rfl
 | .int _=>rfl
 | .str _=>rfl
 | .tup ds=>hasDict_toPDs ds
 | .lst ds=>hasDict_toPDs ds
theorem hasDict_toPDs:∀ds:List D,PyData.hasDictAll (toPDs ds)=false
 | []=>rfl
 | d::ds=>by
   show((oN d).hasDict || PyData.hasDictAll (toPDs ds))=false;rw[aJ d,hasDict_toPDs ds];rfl
end
end L2
namespace L2
open PySem PySem.Spec PyProof.Rows
inductive DE where
 | d (d:D) | nul
inductive TH where
 | one (e:DE) | rows (es:List DE)
def FO(K:W.Frag)(H:Hp)(v:V):DE->Prop
 | .d d=>Rep K H v d
 | .nul=>∃a,v=.ref a/\Rd H a (.dK [])
def rA(K:W.Frag)(H:Hp):List V->List DE->Prop
 | [],[]=>True
 | v::vs,e::es=>FO K H v e/\rA K H vs es
 | _,_=>False
def Ac8(K:W.Frag)(H:Hp)(v:V):TH->Prop
 | .one e=>FO K H v e
 | .rows es=>∃a vs,v=.ref a/\SqL K H a vs/\rA K H vs es
def ZD(n:String):DE->Bool
 | .d d=>U7 n d
 | .nul=>n=="dict"
def zD(n:String):TH->Bool
 | .one e=>ZD n e
 | .rows _=>n=="list"
section
variable{X:Cx}{K:W.Frag}
theorem j7(hK:X.K=K:=by rfl):Ei X (.builtin "isinstance") (fun xs H Q=>∃x n t,xs=[x,.ty n]/\(n="int"\/n="bool"\/n="str"\/n="tuple"\/n="list"\/n="dict")/\Ac8 K H x t/\Q (.bl (zD n t)) H):=by
 subst hK;intro Ac s σ H xs us Q I r h;obtain⟨x,n,t,e,hn,hx,q⟩:=h
 match t,hx,q with
 | .one (.d d),hx,q=>exact Nh Ac s σ H xs us Q I r ⟨x,n,d,e,hn,hx,q⟩
 | .one .nul,hx,q =>
   obtain⟨a,e2,hr⟩:=hx;exact jW (K:=X.K) rfl Ac s σ H xs us Q I r ⟨x,n,.dic,e,hn,⟨a,[],e2,hr⟩,q⟩
 | .rows es,hx,q =>
   subst e;obtain⟨a,vs,rfl,hq,_⟩:=hx;obtain⟨u,v,rfl,rx,rt⟩:=b6 r;cases rt;cases rx;obtain⟨its,_,⟨o,_,e,c,_⟩,_⟩:=I.list hq;have k:=MM (K:=X.K) (d:=.lst []) hn;exact PySem.W.kia_one PySem.W.kitx_list I.kIn ⟨o,e,c⟩ k (fun z=>nomatch z) fun tk=>⟨.bl (n=="list"),H,I.tok tk,rfl,q⟩
end
section
variable{X:Cx}{Ac:LAObj}{σ:St}{H:Hp}{s:Shared}
end
structure Fin(B k:Nat)(p:PyData):Prop where
 sh:p.showable=true
 le:p.shown.length<=B
 dp:p.depth<=k
section
variable{prog:Program}{w:World}{A:Around}{E:Value->Shared->Prop}
end
theorem jY(a v:Value):argsOk "max" ⟨[a],[(Str.ofString "default",v)]⟩:=by unfold argsOk;kernel_rfl
section
variable{prog:Program}{w:World}{A:Around}{R:Result->Shared->Prop}
end
theorem JY(a:Value):argsOk "max" ⟨[a],[]⟩:=by unfold argsOk;kernel_rfl
section
variable{prog:Program}{w:World}{A:Around}{R:Result->Shared->Prop}
theorem IU{I S:Addr}{fp:List Addr}{n:Nat}{P:Nat->Value->Prop}{St:Nat->Heap->Prop}(W:Walks prog w A.in1 I fp [I] n P St)(hSf:S ∉ fp)(hSI:S≠I)(ks:List Int)(hn:ks.length=n)(hn0:0<n)(hP:∀i v,P i v->∃x t,ks[i]?=some x/\v=.int x t) :
 ∀(k i:Nat) (s:Shared) (c:Nat) (best:Array Value),n-i=k->i<=n->St i s.heap->s.heap.get? S=some { cls:=.type "list",dict:=none,data:=.seq best c,slots:=#[] } →
 ((i=0/\best=#[])\/∃m t,best=#[.int m t,.int m t]/\0<i/\m∈ks.take i/\∀x∈ks.take i,x<=m) →
 (∀m t h' tk,m∈ks->(∀x∈ks,x<=m)->(∀b o,b≠I->b≠S->s.heap.get? b=some o->h'.get? b=some o)->R (.ok (.ret (.int m t))) { s with heap:=h',toks:=tk }) →
 codeAny (model prog w) A (.builtin "max.loop" ⟨[.ref I,.none,.ref S],[]⟩) R s:=by
 have hname:(toString "max"++toString ".loop":String)="max.loop":=by decide
 intro k
 induction k with
 | zero =>
   intro i s c best hk hi hst hS hb hR;have hin:i=n:=by omega
   subst hin;refine codeAny_builtin PySem.F.entry_max_loop ?_;rw[Around.under_plainId PySem.F.plain_max_loop _];show wpAny _ A.in1 (seqItems? (.ref S)>>=_) _ _ s;refine wpAny_bind (wpAny_seqItems hS rfl ?_);show wpAny _ A.in1 (tryCatch (pyNext (.ref I)) _>>=_) _ _ s;skip;refine wpAny_bind (wpAny_tryCatch (W.done s _ _ hst fun h' tk hk'=>?_));have hS':=hk' S _ (by simpa using hSI) hS;rcases hb with⟨h0,rfl⟩|⟨m,t,rfl,_,hm1,hm2⟩
   . omega
   . show wpAny _ A.in1 (updateSeq S (fun _=>#[])>>=_) _ _ _;refine wpAny_bind ?_;refine wpAny_updateSeq hS' rfl (wpAny_bind (wpAny_letGo (wpAny_pure ?_)));rw[←hn,List.take_length]at hm1 hm2;exact hR m t _ tk hm1 hm2 fun b o Sx Wz e=>(Heap.get?_update_other _ _ (Ne.symm Wz)).trans (hk' b o (by simpa using Sx) e)
 | succ k ih =>
   intro i s c best hk hi hst hS hb hR;have hlt:i<n:=by omega
   refine codeAny_builtin PySem.F.entry_max_loop ?_;rw[Around.under_plainId PySem.F.plain_max_loop _];show wpAny _ A.in1 (seqItems? (.ref S)>>=_) _ _ s;refine wpAny_bind (wpAny_seqItems hS rfl ?_);show wpAny _ A.in1 (tryCatch (pyNext (.ref I)) _>>=_) _ _ s;skip;refine wpAny_bind (wpAny_tryCatch (W.item i s _ _ hlt hst fun v h' tk hPv mT hk'=>?_));have hS':=hk' S _ (by simpa using hSI) hS;obtain⟨n1,t1,hx,rfl⟩:=hP i v hPv;have htk:ks.take (i+1)=ks.take i++[n1]:=by rw[List.take_succ,hx];rfl
   have uN:∀f:Array Value->Array Value,St (i+1) (h'.update S (Obj.mapSeq f)):=fun f=>W.frame _ _ _ mT fun b hb o e=>(Heap.get?_update_other _ _ (fun z:S=b=>hSf (by rw[z];exact hb))).trans e;have old:∀(f:Array Value->Array Value) (b:Addr) (o:Obj),b≠I->b≠S->s.heap.get? b=some o->(h'.update S (Obj.mapSeq f)).get? b=some o:=fun f b o Sx Wz e=>(Heap.get?_update_other _ _ (Ne.symm Wz)).trans (hk' b o (by simpa using Sx) e);rcases hb with⟨h0,rfl⟩|⟨n2,t2,rfl,hi0,hm1,hm2⟩
   . show wpAny _ A.in1 (updateSeq S (fun _=>#[.int n1 t1,.int n1 t1])>>=_) _ _ _;refine wpAny_bind ?_;refine wpAny_updateSeq hS' rfl ?_;rw[hname];subst h0;refine wpAny_pure ⟨plainId_quiet PySem.F.plain_max_loop _,ih 1 _ _ #[.int n1 t1,.int n1 t1] (by omega) hlt (uN _) (Heap.get?_update_self _ hS' rfl) (.inr ⟨n1,t1,rfl,by omega,by rw[htk];simp,fun x hx'=>?_⟩) fun m t h'' tk' a1 a2 kk=>?_⟩
     . rw[htk]at hx';simp at hx';omega
     . exact hR m t h'' tk' a1 a2 fun b o Sx Wz e=>kk b o Sx Wz (old _ b o Sx Wz e)
   . show wpAny _ A.in1 (tryCatch (holding [.int n1 t1,.int n1 t1] (richCompare .Gt (.int n1 t1) (.int n2 t2)>>=_)) _>>=_) _ _ _;refine wpAny_bind (wpAny_tryCatch (wpAny_holding (wpAny_bind (CmpOf.ints_gt (prog:=prog) (w:=w) (A:=A.in1) (P:=fun i v=>∃t,v=.int (if i=0 then n1 else n2) t) (fun i=>if i=0 then n1 else n2) (fun i v h=>h) 0 1 _ _ _ _ _ ⟨t1,rfl⟩ ⟨t2,rfl⟩ ?_))));refine wpAny_bind (wpAny_holding (wpAny_truthy_bool ?_));refine wpAny_bind (wpAny_letGo (wpAny_pure ?_));split
     . next hgt =>
       have sZ:n2<n1:=by simpa using hgt
       refine wpAny_bind ?_;refine wpAny_updateSeq hS' rfl (wpAny_bind (wpAny_letGo ?_));rw[hname];refine wpAny_pure ⟨plainId_quiet PySem.F.plain_max_loop _,ih (i+1) _ _ #[.int n1 t1,.int n1 t1] (by omega) hlt (uN _) (Heap.get?_update_self _ hS' rfl) (.inr ⟨n1,t1,rfl,by omega,by rw[htk];simp,fun x hx'=>?_⟩) fun m t h'' tk' a1 a2 kk=>?_⟩
       . rw[htk]at hx';rcases List.mem_append.mp hx' with h1 | h1
         . have:=hm2 x h1;omega
         . simp at h1;omega
       . exact hR m t h'' tk' a1 a2 fun b o Sx Wz e=>kk b o Sx Wz (old _ b o Sx Wz e)
     . next hgt =>
       have sZ:n1<=n2:=by simpa using hgt
       refine wpAny_bind (wpAny_letGo ?_);rw[hname];refine wpAny_pure ⟨plainId_quiet PySem.F.plain_max_loop _,ih (i+1) _ _ #[.int n2 t2,.int n2 t2] (by omega) hlt mT hS' (.inr ⟨n2,t2,rfl,by omega,by rw[htk];simp[hm1],fun x hx'=>?_⟩) fun m t h'' tk' a1 a2 kk=>?_⟩
       . rw[htk]at hx';rcases List.mem_append.mp hx' with h1 | h1
         . exact hm2 x h1
         . simp at h1;omega
       . exact hR m t h'' tk' a1 a2 fun b o Sx Wz e=>kk b o Sx Wz (hk' b o (by simpa using Sx) e)
end
theorem N9{X:Cx}(hc:X.calm=true):Ei X (.builtin "max") (fun xs H Q=>∃(p:Addr) (ks:List Int) (kvs:List (Key × V)),xs=[.ref p]/\H p=some (.dK kvs)/\kvs.map (·.1)=ks.map (fun k=>(.inl k:Key))/\ks≠[]/\∀m,m∈ks->(∀x∈ks,x<=m)->Q (.int m) H):=by
 intro Ac s σ H xs us Q I r h;obtain⟨p,ks,kvs,rfl,hp,hk,hne,q⟩:=h;obtain⟨u,rfl,ru⟩:=Md r;cases ru;have hh:X.A.handled=none:=I.ok.hd hc;obtain⟨z,hsys,vs,rel,o,es,ep,ho,c⟩:=id (I.hok p _ hp);have hm:s.heap.DictAt (mixKind X.prog X.w) p vs ep:=⟨o,es,ho,c⟩
 have hl:ks.length=vs.length:=by rw[←rel.length];simpa using(congrArg List.length hk).symm
 have VY:p<s.heap.objs.size:=Heap.lt_size ho;have hname:(toString "max"++toString ".loop":String)="max.loop":=by decide
 refine PyProof.Rows.kmk_tree PySem.F.kind_max PySem.F.plain_max PySem.F.entry_max (JY _) ?_;show wpAny _ X.A.in1 (Builtin.Builtins.bindParams "max" ["key","default"] 0 ⟨[],[]⟩>>=_) _ _ s;refine wpAny_bind (wpAny_of_eq (show Builtin.Builtins.bindParams "max" ["key","default"] 0 ⟨[],[]⟩=pure [none,none] from rfl) ?_);refine wpAny_bind (wpAny_pure ?_);refine wpAny_bind (wpAny_pyIter_dict hsys hm ?_);refine wpAny_bind (wpAny_newList ?_ (Nat.zero_le _));rw[hname];have hS:(s.heap.push { cls:=.type "dict_keyiterator",data:=.fields #[.ref p,.int 0 0,.int vs.length 0,.int ep 0] }).objs.size=s.heap.objs.size+1:=Heap.size_push ..;refine wpAny_pure ⟨plainId_quiet PySem.F.plain_max_loop _,?_⟩;have hpI:p≠s.heap.objs.size:=Nat.ne_of_lt VY;refine IU (S:=(s.heap.push { cls:=.type "dict_keyiterator",data:=.fields #[.ref p,.int 0 0,.int vs.length 0,.int ep 0] }).objs.size) (Walks.dictKeys (prog:=X.prog) (w:=X.w) (A:=X.A.in1) (knd:=mixKind X.prog X.w) hh s.heap.objs.size p hpI vs ep) ?_ (by rw[hS];exact Nat.succ_ne_self _) ks hl (by rw[←hl];exact List.length_pos_iff.mpr hne) (fun i v ⟨k,x,e1,e2⟩=>?_) _ 0 _ 0 #[] rfl (Nat.zero_le _) ⟨?_,?_⟩ ?_ (.inl ⟨rfl,rfl⟩) fun m t h' tk a1 a2 kk=>?_
 . rw[hS];intro hq;rcases List.mem_cons.mp hq with y | y
   . exact absurd y (Nat.succ_ne_self _)
   . have y2:s.heap.objs.size+1=p:=by simpa using y
     exact absurd VY (by rw[←y2];exact Nat.not_lt.mpr (Nat.le_succ _))
 . have e5:(vs.map (·.1))[i]?=some k:=by rw[List.getElem?_map,e1];rfl
   rw[←rel.keys,hk,List.getElem?_map]at e5;cases hx:ks[i]? with
   | none=>rw[hx]at e5;cases e5
   | some n =>
     rw[hx]at e5;cases e5;obtain⟨t,ht⟩:=MR (P:=X.prog) (w:=X.w) e2;exact⟨n,t,rfl,ht⟩
 . exact⟨_,Heap.get?_push_of_some _ (Heap.get?_push_size _ rfl),rfl,rfl⟩
 . exact(hm.at' fun o e=>Heap.get?_push_of_some _ e).at' fun o e=>Heap.get?_push_of_some _ e
 . exact Heap.get?_push_size _ rfl
 . refine⟨.int m,H,I.kept fun b o e=>?_,⟨t,rfl⟩,q m a1 a2⟩;have hb:=Heap.lt_size e;exact kk b o (Nat.ne_of_lt hb) (by rw[hS];exact Nat.ne_of_lt (Nat.lt_succ_of_lt hb)) (Heap.get?_push_of_some _ (Heap.get?_push_of_some _ e))
structure J9(P:Program)(w:World)(K:W.Frag)(mg:Str->Option Value)(base:Heap)(C:Addr)(m:Str)(ps:List Str)(k:Nat)(sp:Sp):Prop where
 ex:∃(f:Addr) (fd:FuncData),FP K C m f/\Ey K fd ps []/\Bj P w K mg base Er k f fd ps sp
structure uC(P:Program)(w:World)(K:W.Frag)(mg:Str->Option Value)(base:Heap)(C:Addr)(ps:List Str)(k:Nat)(sp:Sp):Prop where
 ex:∃(f:Addr) (fd:FuncData),Mk K C f/\Ey K fd ps []/\Bj P w K mg base Er k f fd ps sp
section
variable{X:Cx}{K:W.Frag}{j k:Nat}{C:Addr}{ps:List Str}{sp:Sp}{x m f:Str}{p pos apos pos':Pos}{e o value:Expr}{es:List Expr}{ta tv:TE}{t:TA}
theorem Ju{pl:Sem Bool}(he:PE X o ta)(c:Cls X.K C)(h:J9 X.prog X.w X.K X.mg X.base C m ps j sp)(hr:Di k X.A)(ha:PA X (e::es) t)(hk:j<=k:=by decide)
 (hst:starEach (e::es) X.env=(false,eval e X.env)::starEach es X.env:=by rfl) (hpl:(backTo pos (starEach es X.env)).any (·.1)=false:=by rfl)
 (ht:eval (.Call (.Attribute o m apos) (e::es) [] pos) X.env=(do
   let ov ←eval o X.env
   standAt apos.atName
   let (f,first) ←holding [ov] (getMethod ov m pl)
   callWith pos f first (backTo pos (starEach (e::es) X.env)) (backToKw pos (keywordEach [] X.env))):=by rfl) :
 PE X (.Call (.Attribute o m apos) (e::es) [] pos) (bD C m sp [] E0 ta t):=by
 obtain⟨f,fd,h1,h2,h3⟩:=h.ex;exact fV he c h1 h3 (hr.mono hk) h2 .nil BP ha hst hpl ht
theorem Jt{pl:Sem Bool}(he:PE X o ta)(c:Cls X.K C)(h:J9 X.prog X.w X.K X.mg X.base C m ps j sp)(hr:Di k X.A)(hk:j<=k:=by decide)
 (ht:eval (.Call (.Attribute o m apos) [] [] pos) X.env=(do
   let ov ←eval o X.env
   standAt apos.atName
   let (f,first) ←holding [ov] (getMethod ov m pl)
   callWith pos f first (backTo pos (starEach [] X.env)) (backToKw pos (keywordEach [] X.env))):=by rfl) :
 PE X (.Call (.Attribute o m apos) [] [] pos) (bD C m sp [] E0 ta oO):=by
 obtain⟨f,fd,h1,h2,h3⟩:=h.ex;exact lM he c h1 h3 (hr.mono hk) h2 .nil BP ht
theorem BN(h:uC X.prog X.w X.K X.mg X.base C ps j sp)(hr:Di k X.A)(hg:Gl X x)(hm:X.mg x=some (.ref C))(ha:PA X (e::es) t)(hk:j+1<=k:=by decide)(hdb:(x==("__debug__":Str))=false:=by decide)
 (he:starEach (e::es) X.env=(false,eval e X.env)::starEach es X.env:=by rfl) (hpl:(backTo pos (starEach es X.env)).any (·.1)=false:=by rfl):PE X (.Call (.Name x p) (e::es) [] pos) (QI C sp [] E0 t):=by
 obtain⟨f,fd,h1,h2,h3⟩:=h.ex;exact pB h1 h3 (hr.mono hk) hg hm h2 .nil BP ha hdb he hpl
theorem Bk(he:PE X e ta)(hK:X.K=K:=by rfl)(hb:attributeBase e f X.env (eval e X.env)=eval e X.env:=by rfl):PE X (.Attribute e f pos) (tFld K ta f):=by subst hK;exact RX he hb
theorem Qk(ha:PE X o ta)(hv:PE X value tv)(hK:X.K=K:=by rfl)(hs:swapsWith value (some (.Attribute o f pos')) pos.line X.env=pure false:=by rfl):PS X (.Assign [.Attribute o f pos'] value pos) (UY K ta tv f):=by subst hK;exact rS ha hv hs
theorem aE{T id:String}{name:Str}{cpos:Pos}{r:V->List V->Hp->VK->Prop}(pa:PlainAttrs T)(slot:Slot T name id)(hty:typeOf (.builtin id)=pure (.type "method_descriptor"))(hm:yC X id r)(ho:PE X o ta)(hK:X.K=K:=by rfl)
 (hbase:attributeBase o name X.env (eval o X.env)=eval o X.env:=by rfl) (hline:(apos.endLine==cpos.line)=true:=by rfl):PE X (.Call (.Attribute o name apos) [] [] cpos) (UU K T r ta):=by subst hK;exact rY pa slot hty hm ho hbase hline
end
structure CV(K:W.Frag)(x qual:Str)(st:Stmt)(f:Addr)(fd:FuncData)(ds:List Value):Prop where
 ex:∃(oc:Value) (od:OAddr) (kV doc pm:Value) (an:OAddr) (Cl ct:Value) (osl:Bd) (dt:Addr) (tn:Nat) (UD:Bd) (yI:OAddr),
  fd=W.fnOf x qual (A0 st) (Ay st) (Ai st) (.ref dt) kV doc pm an Cl ct/\K.lookup f=some ⟨oc,od,.func fd,osl⟩/\W.codeIn K Cl qual=true/\K.lookup dt=some ⟨.type "tuple",yI,.seq ds.toArray tn,UD⟩
 kp:W.keepIn K (.ref f)=true
section
variable{P:Program}{w:World}{K:W.Frag}{mg:Str->Option Value}{base:Heap}{ds:List Value}
theorem CV.ok{x qual:Str}{st:Stmt}{f:Addr}{fd:FuncData}{N ps:List Str}{k:Nat}{sp:Sp}(F:CV K x qual st f fd ds)(S:FnScope N ps (Ai st))(len:∀vs H Q E,sp vs H Q E->vs.length=ps.length)
 (hbody:∀(Cl:Value) (A:Around) (outer:List Env) (s:Shared) (H:Hp) (vs:List V) (Q:VK) (E:XK),Di k (A.deeper (envOfC qual (Ai st) s.heap.objs.size f Cl))->sp vs H Q E →
   ∃t,BB (Xk Er P w K mg base N qual (Ai st) f Cl A outer s H E).nox (Ay st) t/\t { nx:=fun _ H'=>Q .non H',rt:=Q } (start N vs) H):Bj P w K mg base Er (k+1) f fd ps sp:=by
 obtain⟨oc,od,kV,doc,pm,an,Cl,ct,osl,dt,tn,UD,yI,rfl,lk,hcd,_⟩:=F.ex;refine mZ lk hcd S len fun A outer s H vs Q E hr dD=>?_;obtain⟨t,h,q⟩:=hbody Cl A outer s H vs Q E hr dD;exact⟨t,h.nox,q⟩
theorem CV.binds{x qual:Str}{st:Stmt}{f:Addr}{fd:FuncData}{ps:List Str}{dd:List Value}(F:CV K x qual st f fd ds)
 (h:∀(kV doc pm:Value) (an:OAddr) (Cl ct:Value) (dt:Addr) (us:List Value),us.length+dd.length=ps.length →
   ∃k:Option (Array Value)->Sem (List (Str × Value)),bindArgs (W.fnOf x qual (A0 st) (Ay st) (Ai st) (.ref dt) kV doc pm an Cl ct) ⟨us,[]⟩=seqItems? (.ref dt)>>=k/\k (some ds.toArray)=pure (ps.zip (us++dd))):Ey K fd ps dd:=by
 obtain⟨oc,od,kV,doc,pm,an,Cl,ct,osl,dt,tn,UD,yI,rfl,lk,hcd,lt⟩:=F.ex;intro s us X hl;obtain⟨k,h1,h2⟩:=h kV doc pm an Cl ct dt us (by rw[←List.length_append];exact hl);exact .of_defaults rfl (X _ _ lt) rfl h1 h2
structure rC(P:Program)(w:World)(K:W.Frag)(mg:Str->Option Value)(base:Heap)(C:Addr)(ps:List Str)(dvs:List V)(k:Nat)(sp:Sp):Prop where
 ex:∃(f:Addr) (fd:FuncData) (ds:List Value),Mk K C f/\Ey K fd ps ds/\Vals dvs ds/\Bj P w K mg base Er k f fd ps sp
end
end L2
namespace L2
open PySem PySem.Spec PyProof.Rows PySem.W
section
variable{prog:Program}{w:World}{A:Around}{E:Value->Shared->Prop}{h:Heap}{g:Array GenState}{d:Drawn}{t:Nat}{os:OsState}{a C dx:Addr}{o:Obj}{K:Frag}{cd:ClassData}{mA:Str->Option Value}{v:Value}{name:Str}
theorem gZ{tk:Tok}{Q:PySem.Fin->Shared->Prop}(X:K.In h)(hf:findIn K (.ref C) name=some none)(hcd:clsIn K C=some cd)(hh:cd.hasDict=true)(hx:h.get? a=some o)(hc:o.cls=.ref C)(hd:o.dict=some dx){vs:Array Value}(hdat:o.data=.fields vs)(hn:h.Ns dx mA)(hv:mA name=some v)(hq:Q (.done (.ret v)) ⟨h,g,d,t,os⟩) :
 wpAny (model prog w) A (Builtin.«object.__getattribute__» ⟨[.ref a,.str name tk],[]⟩) Q E ⟨h,g,d,t,os⟩:=by
 have L1:Looks (model prog w) h (typeLookup (.ref C) name) none:=looks_findIn X hf;have L2':Looks (model prog w) h (classData C) cd:=looks_clsIn X hcd;obtain⟨oc,od,oda,osl⟩:=o;dsimp only at hc hd hdat;subst hc hd hdat
 repeat (any_goals (first | assumption | (with_reducible refine wpAny_nsGet hn ?_;rw[hv]) | with_reducible refine wpAny_loadPart_at hx ?_ | with_reducible refine L1.at ?_ | with_reducible refine L2'.at ?_ | (rw[hh]) | wp_step))
end
end L2
namespace L2
open PySem PySem.Spec PyProof.Rows PySem.W PySem.Builtin PySem.Builtin.ObjectAttr
def AS:List Value:=[.type "ValueError",.type "Exception",.type "BaseException",.type "object"]
theorem bJ(self:Value):refuseLoop self "__setattr__" AS=pure ():=by kernel_rfl
section
variable{prog:Program}{w:World}{A:Around}{K:Frag}{s:Shared}{x C D:Addr}{R:Result->Shared->Prop}
theorem HG{ox:Obj}{od:Option Obj}{name:Str}{tk:Tok}{v:Value}{cd:ClassData}(X:K.In s.heap)(I:InstAt s.heap x ox C od)(hc:clsIn K C=some cd)(hm:cd.mro=.ref C::.ref D::AS)(hf:findIn K (.ref C) name=some none)
 (h:wpAny (model prog w) A.in1 (storeInOwnDict (.ref x) (.ref C) (.str name tk) name v false) (fun fin s'=>match fin with | .done f=>R (.ok f) s' | .again c'=>c'.quiet=true/\codeAny (model prog w) A c' R s') (fun e s'=>R (.error e) s') s) :
 codeAny (model prog w) A (.call (.builtin "object.__setattr__") ⟨[.ref x,.str name tk,v],[]⟩) R s:=by
 have SF:=PySem.F.store_object;have sub:Looks (model prog w) s.heap (isInstance (.ref x) (.type "object")) true:=I.type.andThen (looks_mroIn X (by unfold mroIn;rw[hc,Option.bind_some,hm];rfl));refine codeAny_call_builtin SF.slot.plain SF.entry (@check_slot (model prog w) _ _ s "object.__setattr__" "object" "__setattr__" (.ref x) [.str name tk,v] [] _ SF.kind SF.split sub (SF.args (.ref x) (.str name tk) v) ?_);have hl:Looks (model prog w) s.heap (mroOf (.ref C)) cd.mro:=(looks_clsIn X hc).andThen .now;rw[osa_eq,refuse_eq];refine wpAny_bind (wpAny_bind (I.type.here (wpAny_bind (hl.here ?_))));rw[hm,refuseLoop_ref,refuseLoop_ref,bJ];exact wpAny_pure (wpAny_bind (I.type.here (wpAny_bind ((looks_findIn X hf).here (wpAny_bind (wpAny_pure h))))))
end
section
variable{prog:Program}{w:World}{A:Around}{E:Value->Shared->Prop}{K:Frag}{s:Shared}{x C:Addr}
theorem bE{ox:Obj}{vs:Array Value}{name:Str}{tk:Tok}{v:Value}{cd:ClassData}{Q:PySem.Fin->Shared->Prop}(X:K.In s.heap)(hx:s.heap.get? x=some ox)(hcl:ox.cls=.ref C)(hd:ox.dict=none)(hf:ox.data=.fields vs)
 (hc:clsIn K C=some cd) (hh:cd.hasDict=true)
 (h:∀h' t',h'.get? x=some { ox with dict:=some s.heap.objs.size }->h'.Ns1 s.heap.objs.size (fun y=>if y=name then some v else none)->(∀b o,b≠x->s.heap.get? b=some o->h'.get? b=some o)->Q (.done (.ret .none)) { s with heap:=h',toks:=t' }) :
 wpAny (model prog w) A (storeInOwnDict (.ref x) (.ref C) (.str name tk) name v false) Q E s:=by
 obtain⟨oc,odi,oda,osl⟩:=ox;dsimp only at hcl hd hf;subst hcl hd hf;refine wpAny_bind (wpAny_pure (wpAny_bind (wpAny_bind (wpAny_loadPart hx (wpAny_bind ((looks_clsIn X hc).here ?_))))));rw[hh];have hxs:x≠s.heap.objs.size:=Nat.ne_of_lt (Heap.lt_size hx);have hx₁:(s.heap.push { cls:=.type "dict",data:=.dict #[] }).get? x=some ⟨.ref C,none,.fields vs,osl⟩:=Heap.get?_push_of_some _ hx
 have hgd:((s.heap.push { cls:=.type "dict",data:=.dict #[] }).update x fun o=>{ o with dict:=some s.heap.objs.size }).get? s.heap.objs.size=some { cls:=.type "dict",data:=.dict #[] } :=
  (Heap.get?_update_other _ _ hxs).trans (Heap.get?_push_size _ rfl)
 have hgx:((s.heap.push { cls:=.type "dict",data:=.dict #[] }).update x fun o=>{ o with dict:=some s.heap.objs.size }).get? x=some ⟨.ref C,some s.heap.objs.size,.fields vs,osl⟩ :=
  Heap.get?_update_self (fun o=>{ o with dict:=some s.heap.objs.size }) hx₁ rfl
 have hkeep:∀b o,b≠x->s.heap.get? b=some o->((s.heap.push { cls:=.type "dict",data:=.dict #[] }).update x fun o=>{ o with dict:=some s.heap.objs.size }).get? b=some o:=fun b o n e =>
  (Heap.get?_update_other _ _ n.symm).trans (Heap.get?_push_of_some _ e)
 refine wpAny_bind (wpAny_alloc' (wpAny_bind (wpAny_update' hx₁ (wpAny_pure ?_))));generalize ((s.heap.push { cls:=.type "dict",data:=.dict #[] }).update x fun o=>{ o with dict:=some s.heap.objs.size })=G at hgd hgx hkeep ⊢;refine wpAny_bind (wpAny_pure (wpAny_bind (wpAny_nsSet1 (m:=fun _=>none) (Heap.Ns1.of_empty ⟨_,#[],_,hgd,rfl,fun e he=>absurd he (by simp),fun _=>rfl⟩) fun h' hn' hs=>?_)));obtain⟨oD,esD,epD,uH,ZO,WC⟩:=hn'.count (Within.cons name v Within.nil);refine wpAny_bind (wpAny_lookBehind uH (by rw[ZO];exact pastItsLine_dict (Nat.le_trans WC (by rw[List.length_cons,List.length_nil];decide))) ?_);exact wpAny_pure (h h' _ ((hs.2 x hxs).trans hgx) hn' fun b o n e=>(hs.2 b (Nat.ne_of_lt (Heap.lt_size e))).trans (hkeep b o n e))
end
end L2
namespace L2
open PySem PySem.Spec PyProof.Rows PySem.W
theorem sH{K:Frag}{h:Heap}{N:Addr}{mN:Str->Option Value}{n:Str}{v:Value}(X:K.In h)(G:h.Ns N mN)(z:nsIn K N n=some (some v)):mN n=some v:=by
 obtain⟨ob,es,ep,h1,h2,_,h4⟩:=G;unfold nsIn at z;split at z
 next c d es' n' sl q =>
  have y:=X _ _ q;rw[h1]at y;cases y;cases h2;split at z
  next en hen=>(cases z;rw[←h4];unfold nsFind findBy;rw[←Array.find?_toList,hen];rfl)
  next=>(split at z<;>cases z)
 next=>cases z
abbrev aT:=PySem.F.excBase_ValueError
structure P1(K:Frag)(C D f:Addr):Prop where
 obj:∃N nm q bs sn sub ab col dd k0 k1 k2 k3 k5,K.lookup C=some (excClassObj nm q C N bs (.ref D::bmV) true sn sub ab col dd k0 k1 k2 k3 k5 "ValueError.__new__")/\nsOkIn K N=true/\nsIn K N "__init__"=some (some (.ref f))
 tail:tailIn K bmV (.ref D::bmV)=true
 fn:isFn K (.ref f)=true
 sa:findIn K (.ref C) "__setattr__"=some (some (.builtin "object.__setattr__"))
section
variable{prog:Program}{w:World}{A:Around}{E:Value->Shared->Prop}{h:Heap}{g:Array GenState}{d:Drawn}{t:Nat}{os:OsState}{K:Frag}{C D f:Addr}{rest:List Value}
theorem P1.here(Z:P1 K C D f)(X:K.In h):∃N nm q bs sn sub ab col dd k0 k1 k2 k3 k5 mN,h.get? C=some (excClassObj nm q C N bs (.ref D::bmV) true sn sub ab col dd k0 k1 k2 k3 k5 "ValueError.__new__")/\h.Ns N mN/\mN "__init__"=some (.ref f)/\OwnTail h bmV (.ref D::bmV):=by
 obtain⟨N,nm,q,bs,sn,sub,ab,col,dd,k0,k1,k2,k3,k5,e,n1,n2⟩:=Z.obj;have n0:h.Ns N (h.nsMap N):=.of_isNs (isNs_of_in X n1);exact⟨N,nm,q,bs,sn,sub,ab,col,dd,k0,k1,k2,k3,k5,h.nsMap N,X _ _ e,n0,sH X n0 n2,tail_of_in X Z.tail⟩
theorem P1.fnHere(Z:P1 K C D f)(X:K.In h):∃o,h.get? f=some o/\o.cls=.type "function":=by
 have z:=beq_iff_eq.mp Z.fn;unfold typeIn at z;cases q:K.lookup f with
 | none=>simp[q]at z
 | some o=>simp[q]at z;exact⟨o,X _ _ q,z⟩
abbrev Fl(C t:Addr)(dx:OAddr):Obj:={ cls:=.ref C,dict:=dx,data:=.fields #[.ref t,.none,.none,.none,.bool false,.none] }
theorem NW{Q:Value->Shared->Prop}(X:K.In h)(Z:P1 K C D f)(hr:rest.length<=sizeLine)
 (hq:∀h' e,h.objs.size<=e->Heap.MadeExcOf h h' e (.ref C) rest->wpAny (model prog w) (A.under (.builtin "type.__call__" ⟨.ref C::rest,[]⟩)) (call (.ref f) (.ref e::rest)) (fun r s'=>r=.none/\Q (.ref e) s') E ⟨h',g,d,t,os⟩) :
 wpAny (model prog w) A (call (.ref C) rest) Q E ⟨h,g,d,t,os⟩:=by
 obtain⟨N,nm,q,bs,sn,sub,ab,col,dd,k0,k1,k2,k3,k5,mN,hC,hN,hi,T⟩:=Z.here X;obtain⟨oI,hfI,hfc⟩:=Z.fnHere X;have f1:=tc_lookup;have f2:=tc_bind (.ref C);have hT:(⟨h,g,d,t,os⟩:Shared).TypeIs (.ref C) "type":=⟨_,hC,rfl⟩
 refine wpAny_call (codeAny_of_tree ?_);show wpAny _ _ (callAny (.ref C) _) _ _ _
 repeat (any_goals (first | assumption | with_reducible refine wpAny_loadPart_at hC ?_ | wp_step))
 refine⟨rfl,codeAny_call_builtin_at (Code.quiet_builtin _ (by decide +kernel)) entry_typeCall (wpAny_check_type_call_sub hC ?_)⟩
 repeat (first | with_reducible refine wpAny_loadPart_at hC ?_ | with_reducible refine wpAny_madeBy_exc hC ?_ | wp_step)
 refine codeAny_call_builtin_code (Code.quiet_builtin _ aT.quiet) (wpAny_check_new_subT aT T hC (codeAny_exc_new_subT aT T hC ?_ hr));show wpAny _ _ _ _ _ _
 let G:=(h.push { cls:=.type "tuple",data:=.seq rest.toArray }).push (Fl C h.objs.size none)
 have kG:∀b o,h.get? b=some o->G.get? b=some o:=fun b o e=>Heap.get?_push_of_some _ (Heap.get?_push_of_some _ e);have xR:=kG _ _ hC;have hN1:G.Ns N mN:=hN.keeps kG;have hf1:=kG _ _ hfI
 have hget:G.get? (h.objs.size+1)=some (Fl C h.objs.size none):=by
  have:=Heap.get?_push_size (h.push { cls:=.type "tuple",data:=.seq rest.toArray }) (o:=Fl C h.objs.size none) rfl
  rwa [Heap.size_push]at this
 have hcC:(Value.ref C::.ref D::bmV).contains (.ref C)=true:=by rw[List.contains_cons,beq_self_eq_true];rfl
 have hm:Heap.MadeExcOf h G (h.objs.size+1) (.ref C) rest:=⟨kG,Heap.get?_none_of_le (Nat.le_succ _),h.objs.size,hget,Heap.get?_none_of_le (Nat.le_refl _),Heap.get?_push_of_some _ (Heap.get?_push_at rfl rfl)⟩
 show wpAny _ _ _ _ _ ⟨G,g,d,t,os⟩
 clear_value G
 unfold isInstance
 repeat (first | (with_reducible refine wpAny_loadPart_at hget ?_;dsimp only[Fl]) | (with_reducible refine wpAny_isSubtype_exc xR ?_;rw[hcC]) | wp_step)
 refine wpAny_typeLookup_tail xR hN1 (T.keeps kG) aT.mroIs aT.init.lookup ?_;rw[hi];refine wpAny_holding (wpAny_bind ?_);unfold bindSpecial;refine wpAny_bind (wpAny_typeOf (T:="function") ⟨_,hf1,hfc⟩ ?_);rw[if_pos (by decide)];refine wpAny_pure (wpAny_bind (wpAny_mono (hq G _ (Nat.le_succ _) hm) (fun r s' z=>?_) fun _ _ x=>x));obtain⟨rfl,z⟩:=z
 wp_walk
 exact z
end
def Jw(e C:Addr):HO:=.ext fun h=>∃t,h.get? e=some (Fl C t none)
def madeE(e C d:Addr):HO:=.ext fun h=>∃t,h.get? e=some (Fl C t (some d))
theorem gB{P:Program}{w:World}{H:Hp}{h:Heap}{e C t:Addr}(z:h.get? e=some (Fl C t none)):ObjOk P w H h e (Jw e C):=⟨⟨t,z⟩,⟨_,z⟩,fun _ _ ⟨t',y⟩ k=>⟨t',k _ y⟩⟩
theorem mH{P:Program}{w:World}{H:Hp}{h:Heap}{e C t d:Addr}(z:h.get? e=some (Fl C t (some d))):ObjOk P w H h e (madeE e C d):=⟨⟨t,z⟩,⟨_,z⟩,fun _ _ ⟨t',y⟩ k=>⟨t',k _ y⟩⟩
theorem GB{P:Program}{w:World}{H:Hp}{h:Heap}{e C:Addr}(z:ObjOk P w H h e (Jw e C)):∃t,h.get? e=some (Fl C t none):=z.1
theorem BZ{P:Program}{w:World}{H:Hp}{h:Heap}{e C d:Addr}(z:ObjOk P w H h e (madeE e C d)):∃t,h.get? e=some (Fl C t (some d)):=z.1
structure DC(K:Frag)(D:Addr):Prop where
 rd:readsIn K D (.type "type")=true
 fc:findCls K (.ref D) (.type "type") "__init__"=some (.val (.builtin "ValueError.__init__"))
 ga:specialIn K (.ref D) "__getattribute__"=some (some (.builtin "type.__getattribute__"))
def uU(K:Frag)(t:TA):TE:=fun σ H Q=>t σ H fun vs H1=>∃e C D f y,vs=[.ref e,y]/\H1 e=some (Jw e C)/\P1 K C D f/\Q .non H1
section
variable{X:Cx}{K:Frag}
theorem JE{Ac:LAObj}{σ:St}{H:Hp}{s:Shared}{Q:VK}{e C D f:Addr}{u:Value}(I:Inv X Ac σ H s)(he:H e=some (Jw e C))(Z:P1 X.K C D f)(q:Q .non H) :
 wpAny (model X.prog X.w) X.A (call (.builtin "ValueError.__init__") [.ref e,u]) (EP X Ac σ Q) X.xe s:=by
 obtain⟨N,nm,qn,bs,sn,sub,ab,col,dd,k0,k1,k2,k3,k5,mN,hC,hN,hi,T⟩:=Z.here I.kIn;obtain⟨t0,hx⟩:=GB (I.hok e _ he);obtain⟨h,g,d,t,os⟩:=s;dsimp only at hx hC hN T;refine wpAny_call (codeAny_call_builtin aT.init.plain aT.initEntry (wpAny_check_init_subT aT T hC hx rfl ?_))
 wp_walk
 refine⟨.non,H,?_,rfl,q⟩;have hx1:=Heap.get?_push_of_some (h:=h) { cls:=.type "tuple",data:=.seq [u].toArray } hx;have OH:=Heap.get?_update_self (Obj.mapFields (·.setIfInBounds 0 (Value.ref h.objs.size))) hx1 rfl
 have hu:upd H e (Jw e C)=H:=by
  funext b
  by_cases hb:b=e
  . rw[hb,Ad,he]
  . rw[Ae hb]
 have z:=I.write (x:=e) (e:=e) (o:=Jw e C) (t':=t) (by rw[he];exact True.intro) (.inl rfl) (h':=(h.push { cls:=.type "tuple",data:=.seq [u].toArray }).update e (Obj.mapFields (·.setIfInBounds 0 (Value.ref h.objs.size))))
  (fun b o hb hq=>(Heap.get?_update_other _ _ (Ne.symm hb)).trans (Heap.get?_push_of_some _ hq)) ⟨_,OH⟩ (gB (t:=h.objs.size) OH)
 rw[hu]at z;exact z
theorem pD{x:Str}{D:Addr}{np apos pos:Pos}{e:Expr}{es:List Expr}{t:TA}{pl:Sem Bool}(hg:Gl X x)(hm:X.mg x=some (.ref D))(B:DC K D)(ha:PA X (e::es) t)(hK:X.K=K:=by rfl)
 (hdb:(x==("__debug__":Str))=false:=by decide) (hst:starEach (e::es) X.env=(false,eval e X.env)::starEach es X.env:=by rfl) (hpl:(backTo pos (starEach es X.env)).any (·.1)=false:=by rfl)
 (ht:eval (.Call (.Attribute (.Name x np) "__init__" apos) (e::es) [] pos) X.env=(do
   let ov ←eval (.Name x np) X.env
   standAt apos.atName
   let (f,first) ←holding [ov] (getMethod ov "__init__" pl)
   callWith pos f first (backTo pos (starEach (e::es) X.env)) (backToKw pos (keywordEach [] X.env))):=by rfl) :
 PE X (.Call (.Attribute (.Name x np) "__init__" apos) (e::es) [] pos) (uU K t):=by
 subst hK;intro Ac s σ H Q I h;refine PySem.W.methodCall_KW (pl:=pl) (Gf I hg hm ?_ hdb) ht;refine method_cls I.kIn B.ga (cls_value I.kIn B.rd B.fc rfl ?_);refine PyProof.Rows.callWith_builtin1 (Bu (ha pos Ac _ σ H _ (I.tok _) h) fun us s1 ⟨vs,H1,I1,r1,e1,C,D',f,y,ev,he,Z,q1⟩=>?_) hst hpl;subst ev;obtain⟨u1,u2,rfl,ru,_⟩:=b6 r1;cases ru;exact JE I1 he Z q1
def yO(K:Frag)(ta tv:TE)(f:Str):TS:=fun D σ H=>tv σ H fun y H1=>ta σ H1 fun x H2=>∃e C B g,x=.ref e/\H2 e=some (Jw e C)/\P1 K C B g/\findIn K (.ref C) f=some none ∧
 ∀d,H2 d=none->D.nx σ (upd (upd H2 d (.xd [(f,y)])) e (madeE e C d))
theorem Inv.errd{Ac:LAObj}{σ:St}{H:Hp}{s:Shared}{h':Heap}{t':Nat}{e C d:Addr}{o1 o2:HO}(I:Inv X Ac σ H s)(he:H e=some (Jw e C))(hd:s.heap.objs.size<=d)
 (k:∀b o,b≠e->s.heap.get? b=some o->h'.get? b=some o) (z1:∀H',ObjOk X.prog X.w H' h' d o1) (z2:∀H',ObjOk X.prog X.w H' h' e o2):Inv X Ac σ (upd (upd H d o1) e o2) { s with heap:=h',toks:=t' }:=by
 have hdn:H d=none:=I.hok.fresh hd;have uI:d≠e:=fun q=>by rw[q,he]at hdn;cases hdn
 have nb:∀b o,s.heap.get? b=some o->b≠d:=fun b o q=>Nat.ne_of_lt (Nat.lt_of_lt_of_le (Heap.lt_size q) hd);have ne:∀b,H b=none->b≠e:=fun b q z=>by rw[z,he]at q;cases q
 have go:∀b u,H b=some u->u≠Jw e C->upd (upd H d o1) e o2 b=some u:=fun b u q hu=>by
  have:b≠e:=fun z=>by rw[z,he]at q;cases q;exact hu rfl
  rw[Ae this,Ae (Ap q hdn)];exact q
 have tup:∀b xs,H b=some (.tup xs)->upd (upd H d o1) e o2 b=some (.tup xs):=fun b xs q=>go b _ q (by unfold Jw;intro z;cases z)
 refine I.un ⟨fun b o q n _ _=>k b o (ne b n) q,fun b o q n _ _=>⟨o.slots,k b o (ne b n) q⟩,fun b o q n _=>by rw[Ae (ne b n),Ae (nb b o q)];exact n,fun b o q _=>?_,tup,fun b o u q=>go b _ q (by unfold Jw;intro z;cases z),
  fun b ps q=>⟨#[],by rw[go b _ q (by unfold Jw;intro z;cases z)];simp⟩⟩ fun b u q=>?_
 . by_cases hb:b=e
   . obtain⟨o',q'⟩:=(z2 H).ob;exact⟨o',by rw[hb];exact q'⟩
   . exact⟨o,k b o hb q⟩
 . by_cases hb:b=e
   . subst hb;rw[Ad]at q;cases q;exact z2 _
   . rw[Ae hb]at q;by_cases hb2:b=d
     . subst hb2;rw[Ad]at q;cases q;exact z1 _
     . rw[Ae hb2]at q;refine(I.hok b u q).stay (fun c v hc z=>k c v ?_ z) (fun c z=>go c _ z (by unfold Jw;intro z;cases z)) tup;rintro rfl;rcases hc with z | z
       . exact hb z.symm
       . rw[he]at z;unfold Jw at z;cases z
theorem RS{o value:Expr}{f:Str}{pos pos':Pos}{ta tv:TE}(ha:PE X o ta)(hv:PE X value tv)(hs:swapsWith value (some (.Attribute o f pos')) pos.line X.env=pure false)(hK:X.K=K:=by rfl):PS X (.Assign [.Attribute o f pos'] value pos) (yO K ta tv f):=by
 subst hK;intro Ac s σ H E I h;refine plainObj_wpAny_Assign_Attribute (Bu (hv Ac s σ H _ I h) fun u s1 ⟨y,H1,I1,ry,q⟩=>Bu (ha Ac s1 σ H1 _ I1 q) fun ov s2 ⟨x,H2,I2,rx,e,C,B,g,ex,he,Z,hf,q2⟩=>?_) hs;subst ex;obtain rfl:ov=Value.ref e:=rx;obtain⟨t0,hx⟩:=GB (I2.hok e _ he);have J:InstAt s2.heap e (Fl C t0 none) C none:=⟨hx,rfl,rfl,True.intro⟩
 obtain⟨N,nm,qn,bs,sn,sub,ab,col,dd,k0,k1,k2,k3,k5,hl,_,_⟩:=Z.obj;obtain⟨cd,hc,hm,hh⟩:∃cd:ClassData,clsIn X.K C=some cd/\cd.mro=.ref C::.ref B::AS/\cd.hasDict=true:=⟨_,by unfold clsIn;rw[hl],rfl,rfl⟩
 refine set_plain I2.kIn J Z.sa (HG (s:={ s2 with toks:=s2.toks+1 }) I2.kIn J hc hm hf (bE (s:={ s2 with toks:=s2.toks+1 }) I2.kIn hx rfl rfl rfl hc hh fun h' t' z1 z2 z3=>?_));refine⟨σ,_,I2.errd (t':=t') (o1:=.xd [(f,y)]) he (Nat.le_refl _) z3 (fun H'=>⟨_,z2,fun n=>?_⟩) (fun H'=>mH z1),q2 _ (I2.hok.fresh (Nat.le_refl _))⟩;by_cases hn:n=f
 . subst hn;simp only[List.lookup_cons,beq_self_eq_true,if_true];exact ry
 . have:(n==f)=false:=beq_eq_false_iff_ne.mpr hn;simp only[List.lookup_cons,this,if_neg hn,List.lookup_nil];exact True.intro
end
def del(H:Hp)(e:Addr):Hp:=fun b=>if b=e then none else H b
theorem Xg{H:Hp}{e b:Addr}(h:b≠e):del H e b=H b:=if_neg h
theorem NF{H:Hp}{e:Addr}:del H e e=none:=if_pos rfl
section
variable{M:Model}{A:Around}{E:Value->Shared->Prop}{env:Env}
theorem HV{K:Frag}{C D f:Addr}{s:Shared}{x:Sem Value}{Q:Flow->Shared->Prop}(Z:P1 K C D f)(hh:A.handled=none)
 (h:wpAny M A x (fun v s1=>K.In s1.heap/\∃e t dx,v=.ref e/\s1.heap.get? e=some (Fl C t dx)/\E (.ref e) s1) E s):wpAny M A (raiseStmt env (some x) none) Q E s:=by
 unfold raiseStmt;refine wpAny_bind (wpAny_mono h (fun v s1 z=>?_) fun _ _ y=>y);obtain⟨X,e,t0,dx,rfl,he,hE⟩:=z;obtain⟨N,nm,q,bs,sn,sub,ab,col,dd,k0,k1,k2,k3,k5,mN,hC,hN,hi,T⟩:=Z.here X;have hB:(Value.ref C::.ref D::bmV).contains (.type "BaseException")=true:=by rw[List.contains_cons,T.hasType aT.hasBase,Bool.or_true]
 obtain⟨hp,g,d,tk,os⟩:=s1;dsimp only at he hC
 repeat (first | with_reducible refine wpAny_loadPart_at he ?_ | with_reducible refine wpAny_loadPart_at hC ?_ | (with_reducible refine wpAny_isSubtype_exc hC ?_;rw[hB]) | wp_step)
 exact wpAny_raiseNew_none hh hE
end
def MakesD(X:Cx)(J:XJ):Prop:=∀(Ac:LAObj) (σ:St) (H:Hp) (s:Shared) (e C d:Addr),Inv X Ac σ H s->X.s₀.heap.get? e=none->e ∉ frs X.stack->H e=some (madeE e C d)->J (.ref C) (some d) σ (del H e)->X.xe (.ref e) s
def FQ(J:XJ)(C:Addr)(sp:Sp)(t:TA):TS:=fun _ σ H=>t σ H fun vs H1=>vs.length<=sizeLine/\∀e,H1 e=none →
 sp (.ref e::vs) (upd H1 e (Jw e C)) (fun v H2=>v=.non/\∃d,H2 e=some (madeE e C d)/\J (.ref C) (some d) σ (del H2 e)) (fun _ _ _=>False)
theorem HW{X:Cx}{J:XJ}{K:Frag}{C D f:Addr}{fd:FuncData}{ps:List Str}{k:Nat}{sp:Sp}{x:Str}{np cpos pos:Pos}{e:Expr}{es:List Expr}{t:TA}(hx:MakesD X J)(hc:X.calm=true)(hg:Gl X x)(hm:X.mg x=some (.ref C))(Z:P1 K C D f)(hkp:keepIn K (.ref C)=true)
 (F:Bj X.prog X.w X.K X.mg X.base Er k f fd ps sp) (hb:Ey X.K fd ps []) (hr:Di (k+1) X.A) (ha:PA X (e::es) t) (hK:X.K=K:=by rfl)
 (hdb:(x==("__debug__":Str))=false:=by decide) (he:starEach (e::es) X.env=(false,eval e X.env)::starEach es X.env:=by rfl) (hpl:(backTo cpos (starEach es X.env)).any (·.1)=false:=by rfl) :
 PS X (.Raise (some (.Call (.Name x np) (e::es) [] cpos)) none pos) (FQ J C sp t):=by
 subst hK;intro Ac s σ H Dn I h
 have main:wpAny (model X.prog X.w) X.A (eval (.Call (.Name x np) (e::es) [] cpos) X.env) (fun v s1=>X.K.In s1.heap/\∃e' t' dx,v=.ref e'/\s1.heap.get? e'=some (Fl C t' dx)/\X.xe (.ref e') s1) X.xe s:=by
  refine wpAny_Call_Name_kw (Gf I hg hm ?_ hdb);refine PySem.W.callWith_K (h₀:=X.base) I.ok.mod.kin hkp (Bu (ha cpos Ac s σ H _ I h) fun us s1 ⟨vs,H1,I1,r,hl,q⟩=>⟨I1.kIn,?_⟩) he hpl;obtain⟨h1,g1,d1,t1,YS⟩:=s1;refine NW I1.kIn Z (by show us.length<=_;rw[←r.length];exact hl) fun h' e1 hsz xM=>?_;have hn:H1 e1=none:=I1.hok.fresh hsz;obtain⟨tt,ht,htn,UG⟩:=xM.there;have I2:Inv X Ac σ (upd H1 e1 (Jw e1 C)) ⟨h',g1,d1,t1,YS⟩:=I1.laid (a:=e1) (h':=h') (t':=t1) xM.keeps hsz (gB ht);have r2:Vals (V.ref e1::vs) (Value.ref e1::us):=.cons rfl r;have hlen:(Value.ref e1::us).length=ps.length:=by rw[←r2.length];exact F.len _ _ _ _ (q e1 hn)
  have hb1:=hb ⟨h',g1,d1,t1,YS⟩ (Value.ref e1::us) I2.kIn (by rw[List.append_nil];exact hlen);rw[List.append_nil]at hb1;refine wpAny_call (codeAny_mono (F.run _ X.stack _ _ ⟨Value.ref e1::us,[]⟩ (Value.ref e1::us) _ _ _ (hr.make C us []) (I2.env0.make C us []) hb1 r2 (q e1 hn)) fun rr s' hq=>?_);cases rr with
  | error u=>exact False.elim hq
  | ok fl =>
    cases fl with
    | ret u =>
      obtain⟨v,H3,I3,rv,ev,dd,zL,hj⟩:=I2.after hq;subst ev;refine⟨rv,I3.kIn,e1,?_⟩;obtain⟨t3,h3⟩:=BZ (I3.hok e1 _ zL)
      have hs0:X.s₀.heap.get? e1=none:=by
       cases z:X.s₀.heap.get? e1 with
       | none=>rfl
       | some o=>exact absurd (Nat.lt_of_lt_of_le (Heap.lt_size z) (Nat.le_trans I1.sz hsz)) (Nat.lt_irrefl _)
      have hst:e1 ∉ frs X.stack:=fun z=>by
       have:=I3.stkFree e1 z;rw[zL]at this;cases this
      exact⟨_,_,rfl,h3,hx Ac σ H3 s' e1 C dd I3 hs0 hst zL hj⟩
    | next=>exact False.elim hq
    | brk=>exact False.elim hq
    | cont=>exact False.elim hq
 rw[arm_exec_Raise];refine wpAny_bind (wpAny_standAt (HV Z (I.ok.hd hc) ?_));exact wpAny_bind (wpAny_mono main (fun v s3 z=>wpAny_bind (wpAny_standAt (wpAny_pure z))) fun _ _ y=>y)
structure UB(P:Program)(w:World)(K:Frag)(mg:Str->Option Value)(base:Heap)(C D:Addr)(ps:List Str)(k:Nat)(sp:Sp):Prop where
 ex:∃(f:Addr) (fd:FuncData),P1 K C D f/\keepIn K (.ref C)=true/\Ey K fd ps []/\Bj P w K mg base Er k f fd ps sp
theorem HX{X:Cx}{J:XJ}{C D:Addr}{ps:List Str}{j k:Nat}{sp:Sp}{x:Str}{np cpos pos:Pos}{e:Expr}{es:List Expr}{t:TA}(hx:MakesD X J)(hc:X.calm=true)(h:UB X.prog X.w X.K X.mg X.base C D ps j sp)(hr:Di k X.A)(hg:Gl X x)(hm:X.mg x=some (.ref C))(ha:PA X (e::es) t)
 (hk:j+1<=k:=by decide) (hdb:(x==("__debug__":Str))=false:=by decide) (he:starEach (e::es) X.env=(false,eval e X.env)::starEach es X.env:=by rfl) (hpl:(backTo cpos (starEach es X.env)).any (·.1)=false:=by rfl) :
 PS X (.Raise (some (.Call (.Name x np) (e::es) [] cpos)) none pos) (FQ J C sp t):=by
 obtain⟨f,fd,Z,kp,hb,F⟩:=h.ex;exact HW hx hc hg hm Z kp F hb (hr.mono hk) ha rfl hdb he hpl
section
variable{P:Program}{w:World}{K:W.Frag}{mg:Str->Option Value}{base:Heap}{N:List Str}{qual:Str}{scope:Scope}{f:Addr}{cd:Value}{A:Around}{outer:List Env}{s:Shared}{H:Hp}{E:XK}
theorem EN:MakesD (Xk (oK P w) P w K mg base N qual scope f cd A outer s H E) (fun cls dx _ H'=>E cls dx H'):=by
 intro Ac σ H1 s1 e C d I hs0 hst he hj;have VW:s.heap.get? e=none:=hs0;have fin:∀env∈(envOfC qual scope s.heap.objs.size f cd::outer),∀b,env.frame=some b->b∈e::frs (envOfC qual scope s.heap.objs.size f cd::outer):=fun env hv b hb=>List.mem_cons_of_mem _ (List.mem_filterMap.mpr ⟨env,hv,hb⟩)
 have old:∀b o,s.heap.get? b=some o->b ∉ frs outer->b ∉ e::frs (envOfC qual scope s.heap.objs.size f cd::outer):=fun b o e1 hb z=>by
  rcases List.mem_cons.mp z with y | y
  . rw[y,VW]at e1;cases e1
  rw[AN]at y;rcases List.mem_cons.mp y with y | y
  . exact absurd (Heap.lt_size e1) (by rw[y];exact Nat.lt_irrefl _)
  . exact hb y
 have nx:∀b:Addr,b ∉ ([]:List Addr):=fun b=>by simp
 have QV:∀b∈frs (envOfC qual scope s.heap.objs.size f cd::outer),H1 b=none:=I.stkFree;obtain⟨t0,hx⟩:=BZ (I.hok e _ he)
 have ne:∀b u,H1 b=some u->u≠madeE e C d->del H1 e b=some u:=fun b u q hu=>by
  have:b≠e:=fun z=>by rw[z,he]at q;cases q;exact hu rfl
  rw[Xg this];exact q
 show wpAny (model P w) (A.deeper (envOfC qual scope s.heap.objs.size f cd)) (leaving (envOfC qual scope s.heap.objs.size f cd) (.ref e)) _ _ s1;have dE:ErrD e (some d) s1.heap:=⟨_,hx,rfl⟩
 have hin:PySem.W.hideAll s1.heap (e::frs (envOfC qual scope s.heap.objs.size f cd::outer)) |>.StaysIn s1.heap:=fun b o q=>PySem.W.of_hideAll _ q;have hen:(PySem.W.hideAll s1.heap (e::frs (envOfC qual scope s.heap.objs.size f cd::outer))).get? e=none:=PySem.W.hideAll_none _ (List.mem_cons_self ..)
 refine wpAny_mono (Db (Pg _ _) (wpAny_leaving_firstW (E:=fun _ _=>False) (Q:=fun _ s2=>∃h2,s2={ s1 with heap:=h2 }/\Heap.LeftW (PySem.W.hideAll s1.heap (e::frs (envOfC qual scope s.heap.objs.size f cd::outer))) (envOfC qual scope s.heap.objs.size f cd::outer) e (.ref C) (.ref t0) s1.heap h2)
  (L:=s.heap.objs.size) I.ok.frames (PySem.W.funFrames_hide I.stack fin) rfl hx hin hen rfl rfl rfl fun h2 x=>⟨h2,rfl,x⟩)) (fun _ s2 ⟨⟨h2,e2,x⟩,kd⟩=>?_) (fun _ _ z=>z.1.elim)
 subst e2;obtain⟨x1,⟨_,_,x2⟩,x3,x4⟩:=x;refine⟨e,.ref C,.ref t0,_,del H1 e,some d,rfl,I.os,I.bare,⟨fun b o e1 n hb=>?_,fun b o e1 n hb=>?_,fun b o e1 n=>?_,fun b o e1 hb=>?_,fun b xs y=>ne b _ (I.base.tups b xs y) (by unfold madeE;intro z;cases z),fun b o u y=>ne b _ (I.base.frzs b o u y) (by unfold madeE;intro z;cases z),fun b ps y=>?_⟩,?_,⟨x1,hen,x2,x3⟩,dE.go kd,hj⟩
 . exact PySem.W.hideAll_get _ (I.base.keep b o e1 n hb (nx b)) (old b o e1 hb)
 . obtain⟨z,e2⟩:=I.base.slot b o e1 n hb (nx b);obtain⟨_,o',e3,hd⟩:=I.ok.funs.mem hb;have wO:s.heap.get? b=some o':=e3;rw[e1]at wO;cases wO;obtain⟨z2,e4⟩:=x4 b _ e2 hd;exact⟨z2,e4⟩
 . have:b≠e:=fun z=>by rw[z,VW]at e1;cases e1
   rw[Xg this];exact I.base.free b o e1 n (nx b)
 . obtain⟨o',e2⟩:=I.base.there b o e1 (nx b);exact⟨o',PySem.W.hideAll_get _ e2 (old b o e1 hb)⟩
 . obtain⟨m1,y1⟩:=I.base.tbls b ps y;exact⟨m1,ne b _ y1 (by unfold madeE;intro z;cases z)⟩
 . intro a u y;have ha:a≠e:=fun z=>by rw[z,NF]at y;cases y
   rw[Xg ha]at y;refine(I.hok a u y).stay (fun b v hb q=>PySem.W.hideAll_get _ q fun hm=>?_) (fun b q=>ne b _ q (by unfold madeE;intro z;cases z)) fun b xs q=>ne b _ q (by unfold madeE;intro z;cases z);rcases List.mem_cons.mp hm with hm | hm
   . rcases hb with rfl | hb
     . exact ha hm
     . rw[hm,he]at hb;unfold madeE at hb;cases hb
   . have z:=QV b hm;rcases hb with rfl | hb
     . rw[y]at z;cases z
     . rw[hb]at z;cases z
end
structure ErrA(K:Frag)(C:Addr)(name:Str):Prop where
 no:findIn K (.ref C) name=some none
 cd:∃cd,clsIn K C=some cd/\cd.hasDict=true
theorem P1.attr{K:Frag}{C D f:Addr}{name:Str}(Z:P1 K C D f)(n:findIn K (.ref C) name=some none):ErrA K C name:=by
 obtain⟨N,nm,qn,bs,sn,sub,ab,col,dd,k0,k1,k2,k3,k5,hl,_,_⟩:=Z.obj;exact⟨n,_,by unfold clsIn;rw[hl],rfl⟩
section
variable{prog:Program}{w:World}{A:Around}{E:Value->Shared->Prop}{h:Heap}{g:Array GenState}{d:Drawn}{t:Nat}{os:OsState}{a C dx:Addr}{o:Obj}{K:Frag}{mA:Str->Option Value}{v:Value}{name:Str}
theorem KL{tk:Tok}{R:Result->Shared->Prop}(X:K.In h)(Z:ExcC K C)(Y:ErrA K C name)(hx:h.get? a=some o)(hc:o.cls=.ref C)(hd:o.dict=some dx){vs:Array Value}(hdat:o.data=.fields vs)(hn:h.Ns dx mA)(hv:mA name=some v)(hq:R (.ok (.ret v)) ⟨h,g,d,t,os⟩) :
 codeAny (model prog w) A (.call (.builtin "BaseException.__getattribute__") ⟨[.ref a,.str name tk],[]⟩) R ⟨h,g,d,t,os⟩:=by
 obtain⟨cd,hcd,hh⟩:=Y.cd;exact codeAny_call_builtin F.attr_ValueError.ga.plain F.entry_bexc_ga (dG X Z hx hc (gZ X Y.no hcd hh hx hc hd hdat hn hv hq))
theorem RE{tk:Tok}{fill expr:Bool}{Q:Value->Shared->Prop}(X:K.In h)(Z:ExcC K C)(Y:ErrA K C name)(hx:h.get? a=some o)(hc:o.cls=.ref C)(hd:o.dict=some dx){vs:Array Value}(hdat:o.data=.fields vs)(hn:h.Ns dx mA)(hv:mA name=some v)
 (hh:handedIn v=true) (hq:Q v ⟨h,g,d,t,os⟩):wpAny (model prog w) A (getAttrBy (.ref a) (.str name tk) fill expr) Q E ⟨h,g,d,t,os⟩:=by
 have f3:=F.attr_ValueError.ga.bind (.ref a);have KH:(expr&&onTheHeap (Value.builtin "BaseException.__getattribute__"))=false:=by cases expr<;>rfl
 have OH:(Value.builtin "BaseException.__getattribute__"==Value.builtin "object.__getattribute__")=false:=by decide +kernel
 have hx1:(onTheHeap (Value.ref C)&&Value.builtin "BaseException.__getattribute__"==Value.builtin "object.__getattribute__")=false:=by rw[OH];rfl
 have L1:Looks (model prog w) h (typeLookup (.ref C) "__getattribute__") (some (.builtin "BaseException.__getattribute__")):=looks_findIn X Z.ga;have L2':Looks (model prog w) h (typeLookup (.ref C) "__getattr__") none:=looks_findIn X Z.gt
 repeat (any_goals (first | assumption | (with_reducible refine wpAny_loadPart_at hx ?_;rw[hc]) | with_reducible refine L1.at ?_ | with_reducible refine L2'.at ?_ | wp_step))
 refine KL X Z Y hx hc hd hdat hn hv ?_
 repeat (any_goals (first | assumption | with_reducible refine handed_on hh ?_ | wp_step))
theorem kM{expr:Bool}{Q:Value->Shared->Prop}(X:K.In h)(Z:ExcC K C)(Y:ErrA K C name)(hx:h.get? a=some o)(hc:o.cls=.ref C)(hd:o.dict=some dx){vs:Array Value}(hdat:o.data=.fields vs)(hn:h.Ns dx mA)(hv:mA name=some v)
 (hh:handedIn v=true) (hq:Q v ⟨h,g,d,t+1,os⟩):wpAny (model prog w) A (getAttr (.ref a) name expr) Q E ⟨h,g,d,t,os⟩:=by
 unfold getAttr
 repeat (any_goals (first | assumption | with_reducible apply RE X Z Y hx hc hd hdat hn hv hh | wp_step))
end
def tErrAt(K:Frag)(ta:TE)(f:Str):TE:=fun σ H Q=>ta σ H fun x H1=>∃e C d fs v,x=.ref e/\H1 e=some (excX e (.ref C) (some d))/\ExcC K C/\ErrA K C f/\H1 d=some (.xd fs)/\fs.lookup f=some v/\Q v H1
section
variable{X:Cx}{K:Frag}
theorem lN{e:Expr}{f:Str}{pos:Pos}{ta:TE}(he:PE X e ta)(hb:attributeBase e f X.env (eval e X.env)=eval e X.env:=by rfl)(hK:X.K=K:=by rfl):PE X (.Attribute e f pos) (tErrAt K ta f):=by
 subst hK;intro Ac s σ H Q I h;refine GQ hb (Bu (he Ac s σ H _ I h) fun u s1 ⟨x,H1,I1,rx,a,C,d,fs,v,ex,ea,Z,Y,hd,hl,q⟩=>?_);subst ex;obtain rfl:u=Value.ref a:=rx;obtain⟨⟨o,vs,e1,c1,d1,d2⟩,_⟩:=I1.hok a _ ea;obtain⟨mA,hn,hr⟩:=I1.hok d _ hd;obtain⟨u,hu,ru⟩:=Jc.some_of (v:=v) (o:=mA f) (by rw[←hl];exact hr f);obtain⟨h1,g1,dd1,t1,YS⟩:=s1;exact kM I1.kIn Z Y e1 c1 d2 d1 hn.ns hu (e8 ru) ⟨v,H1,I1.tok _,ru,q⟩
end
section
variable{X:Cx}{K:Frag}
end
end L2
namespace Hb
def A1(f:Nat->Int):Nat->Int
 | 0=>0
 | n+1=>A1 f n+f n
theorem Bb{f g:Nat->Int}:∀{n:Nat},(∀k,k<n->f k=g k)->A1 f n=A1 g n
 | 0,_=>rfl
 | n+1,h=>by
   show A1 f n+f n=A1 g n+g n;rw[Bb fun k hk=>h k (by omega),h n (by omega)]
theorem Nm:∀n:Nat,A1 (fun _=>0) n=0
 | 0=>rfl
 | n+1=>by show A1 _ n+0=0;rw[Nm n];rfl
theorem Mf(f g:Nat->Int):∀n:Nat,A1 (fun k=>f k+g k) n=A1 f n+A1 g n
 | 0=>rfl
 | n+1=>by
   show A1 _ n+(f n+g n)=(A1 f n+f n)+(A1 g n+g n)
   rw[Mf f g n];omega
theorem Gm(c:Int)(f:Nat->Int):∀n:Nat,A1 (fun k=>c*f k) n=c*A1 f n
 | 0=>by show(0:Int)=c*0;rw[Int.mul_zero]
 | n+1=>by
   show A1 _ n+c*f n=c*(A1 f n+f n);rw[Gm c f n,Int.mul_add]
theorem Rg(c:Int)(f:Nat->Int)(n:Nat):A1 (fun k=>f k*c) n=A1 f n*c:=by
 rw[Int.mul_comm,←Gm];exact Bb fun k _=>Int.mul_comm ..
theorem Nn(f:Nat->Nat->Int)(m:Nat):∀n:Nat,A1 (fun i=>A1 (f i) m) n=A1 (fun j=>A1 (fun i=>f i j) n) m
 | 0=>(Nm m).symm
 | n+1=>by
   show A1 _ n+A1 (f n) m=A1 (fun j=>A1 (fun i=>f i j) n+f n j) m;rw[Nn f m n,Mf]
theorem Kc(f:Nat->Int)(i:Nat):∀n:Nat,A1 (fun k=>(if k=i then 1 else 0)*f k) n=if i<n then f i else 0
 | 0=>by simp[A1]
 | n+1=>by
   show A1 _ n+(if n=i then 1 else 0)*f n=_;rw[Kc f i n];by_cases h:n=i
   . subst h;simp
   . by_cases h2:i<n
     . rw[if_pos h2,if_neg h,if_pos (by omega)];omega
     . rw[if_neg h2,if_neg h,if_neg (by omega)];omega
end Hb
namespace Hb
open PySem L2
abbrev Ms:=List (Int × Int)
def nd(ms:Ms):Prop:=(ms.map (·.1)).Nodup
def nz(ms:Ms):Prop:=∀p∈ms,p.2≠0
def Gk(ms:Ms)(k n:Int):Ms:=if Au ms k+n=0 then J1 ms k else O9 ms k (Au ms k+n)
def C6(ms ns:Ms):Ms:=ns.foldl (fun acc p=>Gk acc p.1 p.2) ms
def Bg(n:Int)(ms:Ms):Ms:=if n=0 then [] else ms.map fun p=>(p.1,n*p.2)
theorem Sk{ms:Ms}{k v:Int}(h:lookI ms k=some v):(k,v)∈ms:=by
 induction ms with
 | nil=>simp[lookI]at h
 | cons p ms ih =>
   rw[B9]at h;by_cases e:p.1=k
   . rw[if_pos e]at h;have:p=(k,v):=by cases p;simp_all
     rw[this];exact List.mem_cons_self ..
   . rw[if_neg e]at h;exact List.mem_cons_of_mem _ (ih h)
theorem IW{ms:Ms}{k:Int}(h:k ∉ ms.map (·.1)):lookI ms k=none:=by
 cases e:lookI ms k with
 | none=>rfl
 | some v=>exact absurd (List.mem_map_of_mem (f:=(·.1)) (Sk e)) h
theorem Jx{ms:Ms}(h:nd ms){p:Int × Int}(hp:p∈ms):lookI ms p.1=some p.2:=by
 induction ms with
 | nil=>cases hp
 | cons q ms ih =>
   rw[B9];unfold nd at h;rw[List.map_cons,List.nodup_cons]at h;rcases List.mem_cons.mp hp with rfl | hp
   . rw[if_pos rfl]
   . have:¬q.1=p.1:=fun z=>h.1 (by rw[z];exact List.mem_map_of_mem (f:=(·.1)) hp);rw[if_neg this];exact ih h.2 hp
theorem Ci{ms:Ms}{k:Int}(h:k ∉ ms.map (·.1)):Au ms k=0:=by unfold Au;rw[IW h];rfl
theorem J0(p:Int × Int)(ms:Ms)(k:Int):Au (p::ms) k=if p.1=k then p.2 else Au ms k:=by
 unfold Au;rw[B9];split<;>rfl
theorem MH{ms:Ms}(h:nz ms)(k:Int):lookI ms k=if Au ms k=0 then none else some (Au ms k):=by
 unfold Au;cases e:lookI ms k with
 | none=>rfl
 | some v =>
   have:=h _ (Sk e);show some v=if v=0 then none else some v
   rw[if_neg this]
theorem aC:∀(l1 l2:List Int),l1.Nodup->(∀x∈l1,x∈l2)->l1.length<=l2.length
 | [],l2,_,_=>Nat.zero_le _
 | x::l1,l2,h,hs=>by
   rw[List.nodup_cons]at h;have hx:=hs x (List.mem_cons_self ..)
   have:=aC l1 (l2.erase x) h.2 fun y hy=>by
    have ne:y≠x:=fun z=>h.1 (z▸hy);exact(List.mem_erase_of_ne ne).mpr (hs y (List.mem_cons_of_mem _ hy))
   have e:=List.length_erase_of_mem hx;have:0<l2.length:=List.length_pos_of_mem hx;rw[List.length_cons];omega
theorem kZ{ms ns:Ms}(h1:nd ms)(h2:nd ns)(h:∀k,lookI ms k=lookI ns k):sameC ms ns=true:=by
 have sub:∀{as bs:Ms},nd as->(∀k,lookI as k=lookI bs k)->∀x∈as.map (·.1),x∈bs.map (·.1):=fun {as bs} ha hh x hx=>by
  obtain⟨p,hp,rfl⟩:=List.mem_map.mp hx;have e:=Jx ha hp;rw[hh]at e;exact List.mem_map_of_mem (f:=(·.1)) (Sk e)
 have l1:=aC _ _ h1 (sub h1 h);have l2:=aC _ _ h2 (sub h2 fun k=>(h k).symm);rw[List.length_map,List.length_map]at l1 l2;unfold sameC;rw[Bool.and_eq_true];refine⟨by simp;omega,List.all_eq_true.mpr fun p hp=>decide_eq_true ?_⟩;rw[←h];exact Jx h1 hp
theorem DR{ms:Ms}(h:nd ms):sameC ms ms=true:=kZ h h fun _=>rfl
theorem gC{ms:Ms}(h:nd ms)(k:Int):nd (J1 ms k):=by
 unfold nd J1 at *;exact List.Nodup.sublist (List.Sublist.map _ List.filter_sublist) h
theorem PM{ms:Ms}(h:nz ms)(k:Int):nz (J1 ms k):=fun p hp=>h p (List.mem_filter.mp hp).1
theorem gS{ms:Ms}{k:Int}:(ms.any fun p=>decide (p.1=k))=true↔k∈ms.map (·.1):=by
 rw[List.any_eq_true,List.mem_map];constructor
 . rintro ⟨p,hp,e⟩;exact⟨p,hp,by simpa using e⟩
 . rintro ⟨p,hp,e⟩;exact⟨p,hp,by simpa using e⟩
theorem EL{ms:Ms}(h:nd ms)(k v:Int):nd (O9 ms k v):=by
 unfold nd O9 at *;split
 . rw[List.map_map]
   have e:((fun p:Int × Int=>p.1) ∘ fun p:Int × Int=>if p.1=k then(p.1,v) else p)=(·.1):=by
    funext p
    simp only[Function.comp];split<;>rfl
   rw[e];exact h
 . rename_i hn
   rw[gS]at hn;rw[List.map_append,List.nodup_append];refine⟨h,by simp,fun a ha b hb e=>?_⟩;have:b=k:=by simpa using hb
   exact hn (by rw[←this,←e];exact ha)
theorem gD{ms:Ms}{k v:Int}{p:Int × Int}(hp:p∈O9 ms k v):p∈ms\/p=(k,v):=by
 unfold O9 at hp;split at hp
 . obtain⟨q,hq,e⟩:=List.mem_map.mp hp;by_cases z:q.1=k
   . rw[if_pos z]at e;right;rw[←e,z]
   . rw[if_neg z]at e;left;rw[←e];exact hq
 . rcases List.mem_append.mp hp with h | h
   . exact .inl h
   . exact .inr (by simpa using h)
theorem AB(ms:Ms)(k v:Int):(O9 ms k v).length<=ms.length+1:=by
 unfold O9;split
 . rw[List.length_map];omega
 . rw[List.length_append];simp
theorem MI(ms:Ms)(k:Int):(J1 ms k).length<=ms.length:=List.length_filter_le ..
theorem sG{ms:Ms}(h:nz ms){k v:Int}(hv:v≠0):nz (O9 ms k v):=fun p hp=>by
 rcases gD hp with q | q
 . exact h p q
 . rw[q];exact hv
theorem ME{ms:Ms}(h:nd ms)(k n:Int):nd (Gk ms k n):=by unfold Gk;split;exact gC h k;exact EL h k _
theorem SG{ms:Ms}(h:nz ms)(k n:Int):nz (Gk ms k n):=by
 unfold Gk;split
 . exact PM h k
 . rename_i q;exact sG h q
theorem aD(ms:Ms)(k n:Int):(Gk ms k n).length<=ms.length+1:=by
 unfold Gk;split
 . have:=MI ms k;omega
 . exact AB ..
theorem gI(ms:Ms)(k n j:Int):Au (Gk ms k n) j=if j=k then Au ms j+n else Au ms j:=by
 unfold Gk;split
 . rename_i q
   unfold Au at *;rw[Wm];by_cases e:j=k
   . subst e;simp;omega
   . simp[e]
 . unfold Au at *;rw[Ny];by_cases e:j=k
   . subst e;simp
   . simp[e]
theorem Kn:∀(ns ms:Ms),nd ms->nz ms->nd ns->nd (C6 ms ns)/\nz (C6 ms ns)/\(C6 ms ns).length<=ms.length+ns.length/\∀j,Au (C6 ms ns) j=Au ms j+Au ns j
 | [],ms,h1,h2,_=>⟨h1,h2,by simp[C6],fun j=>by simp[C6,Au,lookI]⟩
 | p::ns,ms,h1,h2,h3=>by
   unfold nd at h3;rw[List.map_cons,List.nodup_cons]at h3;obtain⟨r1,r2,r3,r4⟩:=Kn ns (Gk ms p.1 p.2) (ME h1 _ _) (SG h2 _ _) h3.2;refine⟨r1,r2,?_,fun j=>?_⟩
   . have:=aD ms p.1 p.2;show(C6 (Gk ms p.1 p.2) ns).length<=_;rw[List.length_cons];omega
   . show Au (C6 (Gk ms p.1 p.2) ns) j=_;rw[r4,gI,J0];by_cases e:j=p.1
     . have:=Ci h3.1;subst e;simp[this]
     . have e':¬p.1=j:=fun z=>e z.symm;simp[e,e']
theorem Kq{ms:Ms}(h:nd ms)(n:Int):nd (ms.map fun p=>(p.1,n*p.2)):=by
 unfold nd at *;rw[List.map_map];exact h
theorem Qj:∀(ns ms:Ms),(C6 ms ns).length<=ms.length+ns.length
 | [],ms=>by simp[C6]
 | p::ns,ms=>by
   have h1:=Qj ns (Gk ms p.1 p.2);have h2:=aD ms p.1 p.2;show(C6 (Gk ms p.1 p.2) ns).length<=_;rw[List.length_cons];omega
theorem ID{ms ns:Ms}{i:Nat}{q:Int × Int}(h:ns[i]?=some q):C6 ms (ns.take (i+1))=Gk (C6 ms (ns.take i)) q.1 q.2:=by
 unfold C6;rw[List.take_add_one,h,List.foldl_append];rfl
end Hb
namespace Hb
section
variable{fam:Int}
end
def lev(p:List Int):Nat:=p.length-1
structure OE(xs:LLInt)(p:List Int):Prop where
 cnt:p.length=0\/p.length=2\/p.length=3\/p.length=4
 low:∀f∈p,0<=f
 bel:∀f∈p,∃q,xs[f.toNat]?=some q/\lev q+1=lev p
 agr:3<=p.length->∀(i j:Nat) (f g:Int) (q r:List Int),i<j->p[j]?=some f->p[i]?=some g->xs[f.toNat]?=some q->xs[g.toNat]?=some r->q[i]?=r[j-1]?
def Ir(xs:LLInt):Prop:=∀(k:Nat) (p:List Int),xs[k]?=some p->OE (xs.take k) p
section
variable{xs:LLInt}
end
end Hb
namespace Hb
open PySem L2
def Xp(ns:List Int)(k:Int):Int:=ns.getD k.toNat 0
abbrev LT(K:W.Frag)(H:Hp)(v:V)(xs:LLInt):Prop:=Rep K H v (.lst (xs.map tI))
abbrev TI(K:W.Frag)(H:Hp)(v:V)(ns:List Int):Prop:=Rep K H v (tI ns)
section
variable{K:W.Frag}{H H':Hp}
theorem TI.sq{v:V}{ns:List Int}(h:TI K H v ns):∃a,v=.ref a/\Dw K H a (ns.map V.int):=by
 obtain⟨a,vs,e,q,r⟩:=h;rw[Gx.mp r]at q;exact⟨a,e,q⟩
theorem TI.mk{a:Addr}{ns:List Int}(h:Dw K H a (ns.map V.int)):TI K H (.ref a) ns:=⟨a,_,rfl,h,Gx.mpr rfl⟩
theorem TI.same{v:V}{ns:List Int}(s:Same H H')(h:TI K H v ns):TI K H' v ns:=Rep.same s h
theorem NL(xs:List V)(k:Nat):Ta xs none (some (k:Int))=xs.take k:=by
 unfold Ta;rw[HT.sIx_none,HT.sIx_nat,Nat.sub_zero,List.drop_zero,List.take_eq_take_iff];omega
def SameX(B:Addr)(H H':Hp):Prop:=∀b o,b≠B->H b=some o->H' b=some o
theorem SameX.of{B:Addr}{H H1:Hp}(a:Same H H1):SameX B H H1:=fun c o _ h=>a c o h
theorem SameX.upd{B:Addr}{H H1:Hp}{o:HO}(a:SameX B H H1):SameX B H (upd H1 B o):=fun c u n h=>by rw[Ae n];exact a c u n h
theorem N5:∀ns:List Int,deps (Cb ns)=0
 | []=>rfl
 | n::ns=>by show max (dep (.int n)) (deps (Cb ns))=0;rw[N5 ns];rfl
theorem Xf:∀xs:LLInt,deps (xs.map tI)<=1
 | []=>Nat.zero_le _
 | x::xs=>by
   have h1:=Xf xs;have h2:dep (tI x)=1:=by show deps (Cb x)+1=1;rw[N5]
   show max (dep (tI x)) (deps (xs.map tI))<=1;omega
theorem Mc{c A B:Prop}[Decidable c](hc:c)(h:A):if c then A else B:=by rw[if_pos hc];exact h
theorem Da{c A B:Prop}[Decidable c](hc:¬c)(h:B):if c then A else B:=by rw[if_neg hc];exact h
theorem yX{a b:Int}(h:¬a=b):(!decide (V.int a=V.int b))=true:=by simp[h]
theorem XX{a b:Int}(h:a=b):¬(!decide (V.int a=V.int b))=true:=by simp[h]
theorem noI{a b:Int}(h:¬a=b):¬decide (V.int a=V.int b)=true:=by simp[h]
theorem fJ{g:TG}{te:TE}{D:Addr}{Q:Hp->Prop}{τ:St}{H:Hp}{K:W.Frag}{a:Addr}{xs:List V}(Pv:Nat->List V->St->Hp->Prop)(h0:Pv 0 [] τ H)(hl:∀i ys τ H,i<=xs.length->Pv i ys τ H->SqL K H a xs)
 (hs:∀i x ys τ H,xs[i]?=some x->Pv i ys τ H->g x τ H fun τ2 H2=>te τ2 H2 fun y H4=>H4 D=some (.lst ys)/\ys.length<sizeLine/\Pv (i+1) (ys++[y]) τ2 (upd H4 D (.lst (ys++[y]))))
 (hd:∀ys τ H,Pv xs.length ys τ H->Q H):Qz (uB K a) g kP te D Q τ H:=N8 Pv h0 hl (fun i x ys τ H e p=>hs i x ys τ H e p) hd
theorem g7{g:TG}{te:TE}{D:Addr}{Q:Hp->Prop}{τ:St}{H:Hp}{K:W.Frag}{a:Addr}{xs:List V}(Pv:Nat->List V->St->Hp->Prop)(h0:Pv 0 [] τ H)(hl:∀i ys τ H,i<=xs.length->Pv i ys τ H->Dw K H a xs)
 (hs:∀i x ys τ H,xs[i]?=some x->Pv i ys τ H->g x τ H fun τ2 H2=>te τ2 H2 fun y H4=>H4 D=some (.lst ys)/\ys.length<sizeLine/\Pv (i+1) (ys++[y]) τ2 (upd H4 D (.lst (ys++[y]))))
 (hd:∀ys τ H,Pv xs.length ys τ H->Q H):Qz (uA K a) g kP te D Q τ H:=NS Pv h0 hl (fun i x ys τ H e p=>hs i x ys τ H e p) hd
theorem Tt{g:TG}{te:TE}{D:Addr}{Q:Hp->Prop}{τ:St}{H:Hp}{lo:Int}{n:Nat}(Pv:Nat->List V->St->Hp->Prop)(h0:Pv 0 [] τ H)
 (hs:∀i ys τ H,i<n->Pv i ys τ H->g (.int (lo+i)) τ H fun τ2 H2=>te τ2 H2 fun y H4=>H4 D=some (.lst ys)/\ys.length<sizeLine/\Pv (i+1) (ys++[y]) τ2 (upd H4 D (.lst (ys++[y]))))
 (hd:∀ys τ H,Pv n ys τ H->Q H):Qz (QH lo n) g kP te D Q τ H:=Hs Pv h0 (fun i ys τ H e p=>hs i ys τ H e p) hd
theorem Ar{t u:TS}{D:Ends}{σ:St}{H:Hp}(P:St->Hp->Prop)(hu:∀σ' H',P σ' H'->u D σ' H')(h:∀{N:St->Hp->Prop},(∀σ' H',P σ' H'->N σ' H')->t { D with nx:=N } σ H):KP t u D σ H:=h hu
theorem Cm{t u:TS}{D:Ends}{σ:St}{H:Hp}(P:St->Hp->Prop)(hu:∀σ' H',P σ' H'->u D σ' H')(h:(∀σ' H',P σ' H'->u D σ' H')->KP t u D σ H):KP t u D σ H:=h hu
theorem Dg{n:Nat}(h:n<=1000000):n<sizeLine:=Nat.lt_of_le_of_lt h (by decide)
theorem Bc{n:Nat}(h:n<=1000000):n<=sizeLine:=Nat.le_of_lt (Dg h)
end
section
variable(K:W.Frag)
def DL:Sp:=fun vs H Q _=>∃(a:Addr) (ns:List Int) (k:Int),vs=[.ref a,.int k]/\SqL K H a (ns.map V.int)/\0<=k/\ns.length<=63/\Q (.int (Xp ns k)) H
def p7:Sp:=fun vs H Q _=>∃(a:Addr) (ns:List Int),vs=[.ref a]/\SqL K H a (ns.map V.int)/\ns.length<=63/\∀H',Q (.bl true) H'
end
def Cw(d:L2.D):Bool:=U7 "int" d&&!U7 "bool" d
def Lg(d:L2.D)(b:Int):Bool:=match d with
 | .int i=>decide (0<=i)&&decide (i<b)
 | _=>false
def Bq(n:Nat):Int:=if (0:Int) > (n:Int)-1 then 0 else(n:Int)-1
def Bh(xs:LLInt)(d:L2.D)(l:Int):Bool:=match d with
 | .int i=>decide (0<=i)&&decide (i<(xs.length:Int))&&decide (Bq (xs.getD i.toNat []).length=l)
 | _=>false
def Ob(xs:LLInt)(p:List Int)(j i:Nat):Bool:=decide ((xs.getD (p.getD j 0).toNat []).getD i 0=(xs.getD (p.getD i 0).toNat []).getD (j-1) 0)
def E3(xs:LLInt)(p:List Int):Bool:=(List.range p.length).all fun j=>(List.range j).all fun i=>Ob xs p j i
def kF:L2.D->Int
 | .int i=>i
 | _=>0
def Ol(n:Nat):Bool:=n==0 || n==2 || n==3 || n==4
def Cj(xs:LLInt)(d:L2.D):Bool:=match d with
 | .tup ds=>Ol ds.length&&ds.all (fun e=>Bh xs e (Bq ds.length-1))&&(decide (Bq ds.length<2) || E3 xs (ds.map kF))
 | _=>false
theorem Cp(xs:LLInt)(ds:List L2.D):Cj xs (.tup ds)=(Ol ds.length&&ds.all (fun e=>Bh xs e (Bq ds.length-1))&&(decide (Bq ds.length<2) || E3 xs (ds.map kF))):=rfl
theorem aX{n:Nat}(h:Ol n=true):n<=4/\n≠1:=by
 unfold Ol at h;simp only[Bool.or_eq_true,beq_iff_eq]at h;omega
section
variable(K:W.Frag)
def Id:Sp:=fun vs H Q _=>∃(x:V) (d:L2.D),vs=[x]/\Rep K H x d/\Q (.bl (Cw d)) H
abbrev D0:Sp:=Id K
def Bv:Sp:=fun vs H Q _=>∃(x:V) (d:L2.D) (b:Int),vs=[x,.int b]/\Rep K H x d/\Q (.bl (Lg d b)) H
def B2:Sp:=fun vs H Q _=>∃(x:V) (ds:List L2.D),vs=[x]/\wV K H x ds/\Q (.int (Bq ds.length)) H
def Dz:Sp:=fun vs H Q _=>∃(a:Addr) (x:V) (d:L2.D) (l:Int) (xs:LLInt),vs=[.ref a,x,.int l]/\LT K H (.ref a) xs/\Rep K H x d/\Q (.bl (Bh xs d l)) H
def Gz:Sp:=fun vs H Q _=>∃(a:Addr) (v:V) (xs:LLInt) (p:List Int),vs=[.ref a,v]/\LT K H (.ref a) xs/\TI K H v p/\p.length<=4 ∧
 (∀f∈p,0<=f/\f<(xs.length:Int)/\(xs.getD f.toNat []).length+1=p.length)/\Q (.bl (E3 xs p)) H
abbrev Kh:Sp:=DL K
end
section
variable{K:W.Frag}{H:Hp}
theorem Vb{d:L2.D}(h:Cw d=true):∃i,d=.int i:=by
 cases d<;>simp[Cw,U7]at h;exact⟨_,rfl⟩
theorem LT.get{a:Addr}{xs:LLInt}{i:Int}(h:LT K H (.ref a) xs)(h0:0<=i)(h1:i<(xs.length:Int)):∃us v,SqL K H a us/\Uw us i=some v/\TI K H v (xs.getD i.toNat []):=by
 obtain⟨a',us,e,hq,r⟩:=h;cases e;obtain⟨j,rfl⟩:=Int.eq_ofNat_of_zero_le h0;have hj:j<xs.length:=by omega
 have e:(xs.map tI)[j]?=some (tI xs[j]):=by rw[List.getElem?_map,List.getElem?_eq_getElem hj];rfl
 obtain⟨v,hv,tv⟩:=r.get e;refine⟨us,v,hq,Ft hv,?_⟩;rw[Int.toNat_natCast,List.getD_eq_getElem?_getD,List.getElem?_eq_getElem hj];exact tv
theorem LT.len{a:Addr}{xs:LLInt}(h:LT K H (.ref a) xs):∃us,SqL K H a us/\us.length=xs.length:=by
 obtain⟨a',us,e,hq,r⟩:=h;cases e;exact⟨us,hq,by have:=r.length;simpa using this⟩
theorem TI.get{v:V}{p:List Int}{i:Int}(h:TI K H v p)(h0:0<=i)(h1:i<(p.length:Int)):∃a,v=.ref a/\Dw K H a (p.map V.int)/\Uw (p.map V.int) i=some (.int (p.getD i.toNat 0)):=by
 obtain⟨a,e,hq⟩:=h.sq;refine⟨a,e,hq,?_⟩;obtain⟨j,rfl⟩:=Int.eq_ofNat_of_zero_le h0;have hj:j<p.length:=by omega
 refine Ft ?_;rw[List.getElem?_map,List.getElem?_eq_getElem hj];simp[hj]
theorem Cs(n:Nat):Bq n=((n-1:Nat):Int):=by unfold Bq;split<;>omega
theorem Qy{xs:LLInt}{l:Int}:∀{ds:List L2.D},ds.all (fun e=>Bh xs e l)=true->ds=Cb (ds.map kF)
 | [],_=>rfl
 | d::ds,h=>by
   simp only[List.all_cons,Bool.and_eq_true]at h;cases d with
   | int i =>
     show L2.D.int i::ds=L2.D.int i::Cb (ds.map kF);rw[←Qy h.2]
   | _=>simp[Bh]at h
end
end Hb
namespace L2
open PySem PySem.Spec PyProof.Rows
def Df(X:Cx)(sc:Scope)(N':List Str)(xc:Str)(C c:Addr)(s₀:Shared)(H₀:Hp)(fp:List Addr):Cx where
 prog:=X.prog
 w:=X.w
 K:=X.K
 mg:=X.mg
 base:=X.base
 A:=X.A
 N:=N'
 s₀:=s₀
 H₀:=H₀
 env:=compEnvC sc ((xc,c)::Pt X.env.cells sc.names []) C X.env
 outer:=X.stack
 stack:=X.stack
 ex:=fp
 fn:=fun x=>x==xc
 calm:=X.calm
 pn:=[]
 xe:=fun _ _=>False
structure P2(X:Cx)(sc:Scope)(N':List Str)(cap:List (Option Nat))(xc:Str):Prop where
 kind:sc.kind=.function
 len:cap.length=N'.length
 one:∀n cl,cellsFrom n sc.names cl=(xc,n)::cl
 push:∀h,pushCells h sc.names=h.push { cls:=.type "cell",data:=.cell none }
 own:∀x∈sc.names,x.2=NameKind.cell->x.1=xc
 locals:∀x∈sc.names,x.2=NameKind.local->sc.names.lookup x.1=some NameKind.local
 free:∀n,(n,NameKind.free)∈sc.names->X.env.kindOf n=some .cell\/X.env.kindOf n=some .free
 slots:∀(i j:Nat) (x:Str),N'[i]?=some x->cap[i]?=some (some j)->x≠xc/\X.N[j]?=some x/\((relabel sc X.env).names.lookup x=some .cell\/(relabel sc X.env).names.lookup x=some .free)/\UL X.env.scope x
def nW(x6:Scope)(N:List Str)(sc:Scope)(N':List Str)(cap:List (Option Nat))(xc:Str):Bool :=
 decide (sc.kind=.function)&&decide (cap.length=N'.length)&&sc.names.all (fun x=>decide (x.2=NameKind.cell->x.1=xc))&&sc.names.all (fun x=>decide (x.2=NameKind.local->sc.names.lookup x.1=some NameKind.local)) &&
 sc.names.all (fun x=>decide (x.2=NameKind.free->(x6.names.lookup x.1=some .cell\/x6.names.lookup x.1=some .free))) &&
 (N'.zip cap).all (fun p=>match p.2 with
   | none=>true
   | some j=>decide (p.1≠xc)&&decide (N[j]?=some p.1)&&decide (((sc.names.map fun(n,k)=>if (k==.free&&x6.kind==.function&&x6.names.lookup n==some .cell) then(n,NameKind.cell) else(n,k)).lookup p.1=some .cell) ∨
      ((sc.names.map fun(n,k)=>if (k==.free&&x6.kind==.function&&x6.names.lookup n==some .cell) then(n,NameKind.cell) else(n,k)).lookup p.1=some .free)) &&
     decide (x6.names.lookup p.1=some .local\/x6.names.lookup p.1=some .cell\/x6.names.lookup p.1=some .free))
theorem NV{X:Cx}{sc:Scope}{N':List Str}{cap:List (Option Nat)}{xc:Str}(h:nW X.env.scope X.N sc N' cap xc=true)(one:∀n cl,cellsFrom n sc.names cl=(xc,n)::cl)(push:∀h,pushCells h sc.names=h.push { cls:=.type "cell",data:=.cell none }):P2 X sc N' cap xc:=by
 unfold nW at h;rw[Bool.and_eq_true,Bool.and_eq_true,Bool.and_eq_true,Bool.and_eq_true,Bool.and_eq_true,List.all_eq_true,List.all_eq_true,List.all_eq_true,List.all_eq_true]at h;obtain⟨⟨⟨⟨⟨h1,h2⟩,h3⟩,h4⟩,h5⟩,h6⟩:=h;refine⟨of_decide_eq_true h1,of_decide_eq_true h2,one,push,fun x hx=>of_decide_eq_true (h3 x hx),fun x hx=>of_decide_eq_true (h4 x hx),fun n hn=>of_decide_eq_true (h5 _ hn) rfl,fun i j x e1 e2=>?_⟩
 have hm:(x,some j)∈N'.zip cap:=by
  have e:(N'.zip cap)[i]?=some (x,some j):=by
   rw[List.getElem?_zip_eq_some];exact⟨e1,e2⟩
  exact List.mem_of_getElem? e
 have h7:=h6 _ hm;dsimp only at h7;rw[Bool.and_eq_true,Bool.and_eq_true,Bool.and_eq_true]at h7;obtain⟨⟨⟨h0,h8⟩,h9⟩,h10⟩:=h7;exact⟨of_decide_eq_true h0,of_decide_eq_true h8,of_decide_eq_true (p:=(relabel sc X.env).names.lookup x=some .cell\/(relabel sc X.env).names.lookup x=some .free) h9,of_decide_eq_true (p:=X.env.scope.names.lookup x=some .local\/X.env.scope.names.lookup x=some .cell\/X.env.scope.names.lookup x=some .free) h10⟩
section
variable{X:Cx}{sc:Scope}{N':List Str}{cap:List (Option Nat)}{xc:Str}{Ac:LAObj}{σ:St}{H:Hp}{s:Shared}{C c:Addr}{fp:List Addr}
theorem P2.cells(o:P2 X sc N' cap xc)(ok:X.Ok):∀n,(n,NameKind.free)∈sc.names->∃c,X.env.cells.lookup n=some c:=fun n hn=>ok.has n (o.free n hn)
theorem Gd{env:Env}{x:Str}{k:NameKind}(hnc:∀x∈sc.names,x.2=NameKind.cell->x.1=xc)(h:(relabel sc env).names.lookup x=some k)(hk:k=.cell\/k=.free):(x,NameKind.free)∈sc.names\/x=xc:=by
 have all:∀(l:List (Str × NameKind)),(∀x∈l,x.2=NameKind.cell->x.1=xc)->(l.map fun(n,k)=>if (k==NameKind.free&&env.scope.kind==.function&&env.kindOf n==some .cell) then(n,NameKind.cell) else(n,k)).lookup x=some k->(x,NameKind.free)∈l\/x=xc:=by
  intro l
  induction l with
  | nil=>intro _ h;exact nomatch h
  | cons p r ih =>
    intro hn h;obtain⟨n,q⟩:=p;rw[List.map_cons,List.lookup_cons]at h;have up:((x,NameKind.free)∈r\/x=xc)->((x,NameKind.free)∈(n,q)::r\/x=xc):=fun z=>z.elim (fun z=>.inl (List.mem_cons_of_mem _ z)) .inr;by_cases hc:(q==NameKind.free&&env.scope.kind==.function&&env.kindOf n==some .cell)=true
    . have hq:q=NameKind.free:=by
       have:=hc;simp only[Bool.and_eq_true]at this;simpa using this.1.1
      simp only[hc,if_true]at h;cases hx:x==n with
      | true =>
        have e:x=n:=by simpa using hx
        rw[e,hq];exact .inl List.mem_cons_self
      | false =>
        rw[hx]at h;exact up (ih (fun y hy=>hn y (List.mem_cons_of_mem _ hy)) h)
    . simp only[hc]at h;cases hx:x==n with
      | true =>
        have e:x=n:=by simpa using hx
        simp only[Bool.false_eq_true,if_false,hx]at h;have e2:q=k:=by simpa using h
        rcases hk with z | z
        . exact .inr (e.trans (hn (n,q) List.mem_cons_self (e2.trans z)))
        . rw[e,←z,←e2];exact .inl List.mem_cons_self
      | false =>
        simp only[Bool.false_eq_true,if_false,hx]at h;exact up (ih (fun y hy=>hn y (List.mem_cons_of_mem _ hy)) h)
 exact all sc.names hnc h
theorem Wn{cl:List (Str × Addr)}{x:Str}{a:Addr}(h:((xc,c)::cl).lookup x=some a):(x=xc/\a=c)\/(x≠xc/\cl.lookup x=some a):=by
 rw[List.lookup_cons]at h;cases hx:x==xc with
 | true=>rw[hx]at h;exact .inl ⟨by simpa using hx,(Option.some.inj h).symm⟩
 | false=>rw[hx]at h;exact .inr ⟨by simpa using hx,h⟩
theorem nT(o:P2 X sc N' cap xc)(I:Inv X Ac σ H s)(hC:s.heap.objs.size<=C)(hc:s.heap.objs.size<=c)(hf:∀b∈fp,Je X Ac H b)(hb:∀b∈fp,b<s.heap.objs.size):(Df X sc N' xc C c s H fp).Ok:=by
 have GD:∀x a,(Pt X.env.cells sc.names []).lookup x=some a->X.env.cells.lookup x=some a:=fun x a e=>Cr (o.cells I.ok) (fun z=>by simp at z) e
 have nc:∀x a,(Pt X.env.cells sc.names []).lookup x=some a->a≠c:=fun x a e z=>by
  obtain⟨v,ob,hob,_⟩:=I.cell x a (GD x a e);exact absurd (Nat.lt_of_lt_of_le (Heap.lt_size hob) (z▸hc)) (Nat.lt_irrefl _)
 exact {
  mod:=I.ok.mod
  kind:=o.kind
  glob:=I.ok.glob
  blt:=I.ok.blt
  above:=hC
  inj:=fun x y a hx hy=>by
   rcases Wn hx with⟨rfl,rfl⟩|⟨n1,hx⟩<;>rcases Wn hy with⟨e2,e3⟩|⟨n2,hy⟩
   . exact e2.symm
   . exact absurd rfl (nc _ _ hy)
   . exact absurd e3 (nc _ _ hx)
   . exact I.ok.inj x y a (GD x a hx) (GD y a hy)
  has:=fun x hx=>by
   have hm:(x,NameKind.free)∈sc.names\/x=xc:=by
    rcases hx with hx | hx
    . exact Gd o.own hx (.inl rfl)
    . exact Gd o.own hx (.inr rfl)
   by_cases e:x=xc
   . exact⟨c,by show((xc,c)::_).lookup x=_;rw[List.lookup_cons,e];simp⟩
   . obtain⟨a,ha⟩:=Nc (cells:=X.env.cells) (l:=sc.names) (acc:=[]) (x:=x) (.inl (hm.resolve_right e));refine⟨a,?_⟩;show((xc,c)::_).lookup x=_;rw[List.lookup_cons];have:(x==xc)=false:=by simpa using e
     rw[this];exact ha
  cab:=fun x a h e=>by
   have hx:x=xc:=by simpa[Df]using h
   rcases Wn e with⟨_,rfl⟩|⟨n1,_⟩
   . exact hc
   . exact absurd hx n1
  hd:=I.ok.hd
  frames:=I.ok.frames
  stk:=.inl rfl
  exf:=fun b hb'=>⟨Nat.ne_of_lt (Nat.lt_of_lt_of_le (hb b hb') hC),fun x a e=>by
   rcases Wn e with⟨_,rfl⟩|⟨_,e⟩
   . exact Nat.ne_of_gt (Nat.lt_of_lt_of_le (hb b hb') hc)
   . exact(hf b hb').2.2.2.2.1 x a (GD x a e)⟩
  bs:=I.bs
  bsz:=Nat.le_trans I.ok.bsz I.sz
  noex:=fun b ob e hb'=>by
   rcases (hf b hb').2.2.2.1 with z | z
   . exact I.ok.noex b ob e z
   . exact absurd (Nat.lt_of_lt_of_le (Heap.lt_size e) (Nat.le_trans I.ok.bsz z)) (Nat.lt_irrefl _)
  exfs:=fun b hb' z=>by
   obtain⟨_,f1,f2,_⟩:=hf b hb';rcases List.mem_cons.mp (I.stkSub b z) with e | e
   . exact f1 e
   . exact f2 e
  funs:=I.stack
  frf:=I.stkFree }
theorem JU(o:P2 X sc N' cap xc)(I:Inv X Ac σ H s){D:Addr}{h1:Heap}{t:Nat}(hD:D=s.heap.objs.size)(hC:C=s.heap.objs.size+1)(hc:c=s.heap.objs.size+2)(hf:∀b∈fp,Je X Ac H b)(hb:∀b∈fp,b<s.heap.objs.size)
 (hn:h1.Ns C fun _=>none) (hcell:h1.IsCell c none) (hl:h1.get? D=some { cls:=.type "list",data:=.seq #[] 0 }) (k:∀b o,s.heap.get? b=some o->h1.get? b=some o) :
 Inv (Df X sc N' xc C c s H fp) [] (Tf cap σ) (upd H D (.lst [])) { s with heap:=h1,toks:=t }:=by
 have WH:s.heap.objs.size<=C:=by rw[hC];exact Nat.le_add_right _ _
 have hcs:s.heap.objs.size<=c:=by rw[hc];exact Nat.le_add_right _ _
 have ZW:C≠D:=by rw[hC,hD];exact Nat.succ_ne_self _
 have WC:c≠D:=by rw[hc,hD];exact Nat.ne_of_gt (Nat.lt_add_of_pos_right (by decide))
 have ok:=nT (C:=C) (c:=c) (fp:=fp) o I WH hcs hf hb;have ZU:H D=none:=by rw[hD];exact I.fresh
 have GD:∀x a,(Pt X.env.cells sc.names []).lookup x=some a->X.env.cells.lookup x=some a:=fun x a e=>Cr (o.cells I.ok) (fun z=>by simp at z) e;have WT:∀a v,s.heap.IsCell a v->h1.IsCell a v:=fun a v ⟨ob,ho,hd⟩=>⟨ob,k a ob ho,hd⟩
 have YZ:∀a v,s.heap.IsCell a v->a≠D:=fun a v ⟨ob,ho,hd⟩=>by rw[hD];exact Nat.ne_of_lt (Heap.lt_size ho)
 refine⟨ok,rfl,I.bare,Un.laid k (by rw[hD];exact Nat.le_refl _) ZU,⟨_,hn,fun i x v e1 e2 e3=>?_⟩,fun x a e=>?_,?_,fun x a e=>?_,fun p hp=>absurd hp (by simp[Df]),?_,?_⟩
 . have ND:cap[i]?.map (fun o=>o.bind fun j=>(σ[j]?).join)=some (some v):=by
    have:=e2;unfold Tf at this;rw[List.getElem?_map]at this;exact this
   cases hcp:cap[i]? with
   | none=>rw[hcp]at ND;cases ND
   | some oo =>
     rw[hcp]at ND;cases oo with
     | none=>cases ND
     | some j =>
       have e4:(σ[j]?).join=some v:=by simpa using ND
       obtain⟨q0,q1,vD,q3⟩:=o.slots i j x e1 hcp;have q2:(x,NameKind.free)∈sc.names:=(vD.elim (fun z=>Gd o.own z (.inl rfl)) fun z=>Gd o.own z (.inr rfl)).resolve_right q0;obtain⟨m,hm,hl'⟩:=I.loc
       have e5:σ[j]?=some (some v):=by
        cases z:σ[j]? with
        | none=>rw[z]at e4;cases e4
        | some y=>rw[z]at e4;cases y with
          | none=>cases e4
          | some y'=>cases e4;rfl
       obtain⟨u,r,l⟩:=hl' j x v q1 e5 q3;refine⟨u,r,?_⟩;obtain⟨a,ha⟩:=Nc (cells:=X.env.cells) (l:=sc.names) (acc:=[]) (x:=x) (.inl q2);have kd:X.env.kindOf x=some .cell\/X.env.kindOf x=some .free:=o.free x q2;rcases l with⟨hk,_⟩|⟨hk,a',ha',hcl⟩
       . rcases kd with z | z<;>rw[z]at hk<;>cases hk
       . have e6:a'=a:=by
          have:=GD x a ha;rw[ha']at this;exact Option.some.inj this
         refine .inr ⟨vD,a,?_,?_⟩
         . show((xc,c)::_).lookup x=_;rw[List.lookup_cons];have:(x==xc)=false:=by simpa using q0
           rw[this];exact ha
         . rw[←e6];exact WT _ _ hcl
 . rcases Wn e with⟨_,rfl⟩|⟨_,e⟩
   . exact⟨none,hcell⟩
   . obtain⟨v,z⟩:=I.cell x a (GD x a e);exact⟨v,WT a v z⟩
 . show upd H D (.lst []) C=none;rw[Ae ZW];exact I.hok.fresh WH
 . show upd H D (.lst []) a=none;rcases Wn e with⟨_,rfl⟩|⟨_,e⟩
   . rw[Ae WC];exact I.hok.fresh hcs
   . obtain⟨v,z⟩:=I.cell x a (GD x a e);rw[Ae (YZ a v z)];exact I.freeC x a (GD x a e)
 . exact I.hok.laid k (by rw[hD];exact Nat.le_refl _) ⟨Nat.zero_le _,[],0,.nil,hl⟩
 . show(Tf cap σ).length=N'.length;unfold Tf;rw[List.length_map,o.len]
end
theorem newEnv_cell{M:Model}{A:Around}{E:Value->Shared->Prop}{s:Shared}{sc:Scope}{globals:Addr}{cl:List (Str × Addr)}{qual:Str}{env0:Env}{xc:Str}{Q:Env->Shared->Prop}
 (one:∀n cl,cellsFrom n sc.names cl=(xc,n)::cl) (push:∀h,pushCells h sc.names=h.push { cls:=.type "cell",data:=.cell none })
 (hQ:∀h',h'.Ns s.heap.objs.size (fun _=>none)->h'.IsCell (s.heap.objs.size+1) none->(∀b o,s.heap.get? b=some o->h'.get? b=some o) →
   Q { scope:=sc,locals:=s.heap.objs.size,globals:=globals,cells:=(xc,s.heap.objs.size+1)::cl,qual:=qual,func:=none,code:=env0.code,frame:=env0.frame,builtins:=env0.builtins } { s with heap:=h' }) :
 wpAny M A (newFunctionEnv sc globals cl [] qual none .none (some env0)) Q E s:=by
 unfold newFunctionEnv;simp only[Option.isSome_some,if_true];refine wpAny_bind (wpAny_alloc ?_);refine wpAny_bind (wpAny_layCells _ (fun name kind cells=>by cases hkc:kind==NameKind.cell<;>simp[hkc]) _ _ _ _ ?_);have hsz:({ s with heap:=s.heap.push { cls:=.type "dict",data:=.dict #[] } }:Shared).heap.objs.size=s.heap.objs.size+1:=Heap.size_push ..;rw[hsz,one,push];simp only[List.forIn_nil];refine wpAny_bind (wpAny_pure (wpAny_pure (hQ _ ?_ ?_ fun b o e=>Heap.get?_push_of_some _ (Heap.get?_push_of_some _ e))))
 . exact(Heap.Ns.new s.heap (.type "dict")).keeps fun b o e=>Heap.get?_push_of_some _ e
 . refine⟨{ cls:=.type "cell",data:=.cell none },?_,rfl⟩;have:=Heap.get?_push_size (h:=s.heap.push { cls:=.type "dict",data:=.dict #[] }) (o:={ cls:=.type "cell",data:=.cell none }) rfl;rw[Heap.size_push]at this;exact this
section
variable{X:Cx}{sc:Scope}{N':List Str}{cap:List (Option Nat)}{xc:Str}{tg elt iter:Expr}{ifs:List Expr}{pos:Pos}{g:TG}{tc:TT}{te:TE}
theorem cM{Ac:LAObj}{σ:St}{H:Hp}{s:Shared}{J:It}{fp:List Addr}{it:Addr}{tn:Nat->Heap->Prop}{RR:Value->Addr->Result->Shared->Prop}{Q:Addr->Hp->Prop}{E:Value->Shared->Prop}
 (o:P2 X sc N' cap xc) (zP:X.calm=true) (hg:∀C c s₀ H₀ fp,PG (Df X sc N' xc C c s₀ H₀ fp) tg g) (ht:∀C c s₀ H₀ fp,RA (Df X sc N' xc C c s₀ H₀ fp) ifs tc) (he:∀C c s₀ H₀ fp,PE (Df X sc N' xc C c s₀ H₀ fp) elt te)
 (I:Inv X Ac σ H s) (T:Uy X.prog X.w X.K tg J fp it tn) (st:tn 0 s.heap) (hf:∀b∈fp,Je X Ac H b)
 (h:∀D,H D=none->Qz J g tc te D (Q D) (Tf cap σ) (upd H D (.lst [])))
 (hR:∀D C s' H' m',H D=none->s.heap.objs.size<=C->s'.os=s.os->AllBare s'.gens->Un (frs X.stack) fp H H' s.heap s'.heap->L4 X.prog X.w H' s'.heap->s'.heap.Ns C m'->H' C=none->C ∉ fp->Q D H'->RR (.ref D) C (.ok .next) s') :
 wpAny (model X.prog X.w) X.A (newList []) (fun acc s₃=>wpAny (model X.prog X.w) X.A (newFunctionEnv sc X.env.globals (Pt X.env.cells sc.names []) [] X.env.qual none .none (some X.env)) (fun cenv s₄ =>
  codeAny (model X.prog X.w) X.A (.compStart (.ListComp elt [⟨tg,iter,ifs,0⟩] sc pos) 0 (.ref it) acc { cenv with scope:=relabel sc X.env }) (RR acc cenv.locals) s₄) E s₃) E s:=by
 have hb:∀b∈fp,b<s.heap.objs.size:=fun b hb=>by
  obtain⟨ob,e,_⟩:=T.obj _ _ st b hb;exact Heap.lt_size e
 refine wpAny_newObj_type (newEnv_cell o.one o.push (fun h₁ eX EX hk₁=>?_));dsimp only at eX EX hk₁ ⊢;generalize TL:s.heap.push { cls:=.type "list",dict:=none,data:=.seq ([]:List Value).toArray }=H2 at eX EX hk₁ ⊢;have hC:H2.objs.size=s.heap.objs.size+1:=by rw[←TL,Heap.size_push]
 have PY:s.heap.objs.size<=H2.objs.size:=by rw[hC];exact Nat.le_succ _
 have hcl:s.heap.objs.size<=H2.objs.size+1:=Nat.le_succ_of_le PY;have old:∀b ob,s.heap.get? b=some ob->h₁.get? b=some ob:=fun b ob e=>hk₁ b ob (TL▸Heap.get?_push_of_some _ e);have hl:h₁.get? s.heap.objs.size=some { cls:=.type "list",data:=.seq #[] 0 }:=hk₁ _ _ (TL▸Heap.get?_push_size _ rfl);have I4:Inv (Df X sc N' xc H2.objs.size (H2.objs.size+1) s H fp) [] (Tf cap σ) (upd H s.heap.objs.size (.lst [])) { s with heap:=h₁ }:=JU (t:=s.toks) o I rfl hC (by rw[hC]) hf hb eX EX hl old;have hfr:H s.heap.objs.size=none:=I.fresh
 have f4:∀b∈fp,Je (Df X sc N' xc H2.objs.size (H2.objs.size+1) s H fp) [] (upd H s.heap.objs.size (.lst [])) b:=fun b hb'=>by
  obtain⟨f0,f1,f2,f3,f4,f5⟩:=hf b hb';have lb:=hb b hb';refine⟨by rw[Ae (Nat.ne_of_lt lb)];exact f0,(Nat.ne_of_lt (Nat.lt_of_lt_of_le lb PY):b≠H2.objs.size),fun z=>?_,.inl hb',fun x a e=>?_,fun p hp=>absurd hp (by simp[Df])⟩
  . rcases List.mem_cons.mp (I.stkSub b z) with e | e
    . exact f1 e
    . exact f2 e
  . rcases Wn e with⟨_,rfl⟩|⟨_,e⟩
    . exact Nat.ne_of_gt (Nat.lt_of_lt_of_le lb hcl)
    . exact f4 x a (Cr (o.cells I.ok) (fun z=>by simp at z) e)
 have uW:tn 0 h₁:=T.keep _ _ _ st fun b _ ob e=>old b ob e
 have loop:∀s₅:Shared,s₅={ s with heap:=h₁ } →
  codeAny (model X.prog X.w) X.A (.compLoop (.ListComp elt [⟨tg,iter,ifs,0⟩] sc pos) 0 (.ref it) (.ref s.heap.objs.size) (Df X sc N' xc H2.objs.size (H2.objs.size+1) s H fp).env) (RR (.ref s.heap.objs.size) H2.objs.size) s₅:=by
  rintro s₅ rfl;refine g8 (Y:=Df X sc N' xc H2.objs.size (H2.objs.size+1) s H fp) (J:=J) (fp:=fp) (tn:=tn) (Q:=Q s.heap.objs.size) rfl zP (hg _ _ _ _ _) (ht _ _ _ _ _) (he _ _ _ _ _) T uW f4 I4 (h _ hfr) fun τ' H' s' I' q'=>?_;obtain⟨m',hn',_⟩:=I'.loc;exact hR _ _ s' H' m' hfr PY I'.os I'.bare I'.base I'.hok hn' I'.free (fun z=>absurd (Nat.lt_of_lt_of_le (hb _ z) PY) (Nat.lt_irrefl _)) q'
 exact codeAny_compStart_list (loop _ rfl) (T.self _ 0 _ _ _ uW (loop _ rfl))
theorem LB{wi:TI}{i:Nat}{x:Str}{px spos:Pos}(hN:X.N.Nodup)(hi':X.N[i]?=some x)(hx:qH X.env.scope x)(zP:X.calm=true)(hcap:nW X.env.scope X.N sc N' cap xc=true)(one:∀n cl,cellsFrom n sc.names cl=(xc,n)::cl)(push:∀h,pushCells h sc.names=h.push { cls:=.type "cell",data:=.cell none })(hi:PI X tg iter wi)
 (hg:∀C c s₀ H₀ fp,PG (Df X sc N' xc C c s₀ H₀ fp) tg g) (ht:∀C c s₀ H₀ fp,RA (Df X sc N' xc C c s₀ H₀ fp) ifs tc) (he:∀C c s₀ H₀ fp,PE (Df X sc N' xc C c s₀ H₀ fp) elt te)
 (hsw:swapsWith (.ListComp elt [⟨tg,iter,ifs,0⟩] sc pos) (some (.Name x px)) spos.line X.env=pure true:=by rfl)
 (hs:∀x,foldedSetIterable iter X.env x=pure x:=by intro _;rfl) (hf:X.fn x=true\/X.env.scope.names.lookup x=some .local:=by first | exact .inl rfl | exact .inr rfl | assumption) :
 PS X (.Assign [.Name x px] (.ListComp elt [⟨tg,iter,ifs,0⟩] sc pos) spos) (KQ (kQ wi cap g tc te) (Tq i)):=by
 intro Ac s σ H D I h;have o:P2 X sc N' cap xc:=NV hcap one push;rw[exec_Assign_Name_used _ _ _ _ hsw];refine wpAny_bind (wpAny_standAt (wpAny_bind ?_));show wpAny _ X.A (do let _ ←comprehension (.ListComp elt [⟨tg,iter,ifs,0⟩] sc pos) sc X.env _ (newList []) false (eval iter X.env) (some (assign (.Name x px) X.env))) _ _ s
 refine wpAny_bind (Bu (wpAny_comprehension_free (use:=some (assign (.Name x px) X.env)) (Q:=fun _ s'=>SP X Ac D .next s') rfl hs (Pr (o.cells I.ok)) o.kind o.locals
  (Bu (hi Ac s σ H _ I h) fun v s1 h1=>Bu h1 fun itv s2 h2=>?_)) fun _ s' hq=>wpAny_pure (wpAny_pure hq))
 obtain⟨it,fp,tn,J,H2,e,I2,T,st2,f2,hW⟩:=h2;subst e;refine cM (RR:=fun acc C=>compPost (model X.prog X.w) X.A X.xe (some (assign (.Name x px) X.env)) (fun _ s'=>SP X Ac D .next s') acc C) (Q:=fun A H'=>Tq i (.ref A) σ H' D.nx) o zP hg ht he I2 T st2 f2 hW ?_;intro A C s' H' m' hD hC hos hbare hun hok hn QU hCf q;have I3:Inv X Ac σ H' s':=I2.call' hos hun hok hbare (Inv.fpCh f2);have f3:Je X Ac H' C:=I2.fpOk hC QU;obtain⟨_,k1,_,k3,k4,k5⟩:=f3;show wpAny _ X.A (assign (.Name x px) X.env (.ref A)) _ _ s';refine wpAny_assign_Name (Rh I3 hN hi' hx (v:=.ref A) rfl (fun s'' I'' ⟨a,Ka,ha⟩=>?_) hf)
 have ZV:C≠a:=by
  rcases ha with z | z
  . rw[z];exact k1
  . exact fun z'=>k4 x a z z'.symm
 refine⟨m',hn.sameBut Ka ZV,fun h' SX=>?_⟩;have I4:Inv X Ac (σ.set i (some (.ref A))) H' { s'' with heap:=h' }:=I''.turned (t':=s''.toks) (fun b ob hb e=>(SX.2 b hb).trans e) QU k1 k3 k4 k5;exact⟨_,H',I4,q⟩
end
end L2
namespace Hb
open PySem L2
section
variable{H H1:Hp}{a:Addr}{ms:Ms}{k v:Int}
theorem gK(rd:Rd H a (.dK (cK ms))):DGet H a (.int k) ((lookI ms k).map V.int):=.inl ⟨cK ms,.inl k,rd,rfl,(Jb ms k).symm⟩
theorem Va(rd:Rd H a (.dK (cK ms)))(h:lookI ms k=some v):DGet H a (.int k) (some (.int v)):=.inl ⟨cK ms,.inl k,rd,rfl,by rw[Jb,h];rfl⟩
theorem U9(h:H a=some (.dK (cK ms)))(hl:ms.length<=1000000):UC H a (.int k) (.int v) (upd H a (.dK (cK (O9 ms k v)))):=by
 rw[←TV];exact .inl ⟨cK ms,.inl k,h,rfl,by unfold cK;rw[List.length_map];exact Dg hl,rfl⟩
theorem Tg{i:Nat}{kk:Key}{x:V}(h:(cK ms)[i]?=some (kk,x)):∃p:Int × Int,ms[i]?=some p/\kk=.inl p.1/\x=.int p.2:=by
 unfold cK at h;rw[List.getElem?_map]at h;cases e:ms[i]? with
 | none=>rw[e]at h;cases h
 | some p =>
   rw[e]at h;have:=Option.some.inj h;simp only[Prod.mk.injEq]at this;exact⟨p,rfl,this.1.symm,this.2.symm⟩
theorem Hv:(cK ms).length=ms.length:=by unfold cK;rw[List.length_map]
theorem dH{o:HO}(h:H a=some o):upd H a o=H:=by
 funext b
 by_cases e:b=a
 . rw[e,Ad,h]
 . rw[Ae e]
theorem W5{x:HO}{D:Addr}(h:(upd H a x) D=none):H D=none/\D≠a:=by
 have n:D≠a:=fun z=>by rw[z,Ad]at h;cases h
 rw[Ae n]at h;exact⟨h,n⟩
end
def newC(H:Hp)(ms:Ms)(Q:V->Hp->Prop):Prop:=∀(D:Addr) (H':Hp),H D=none->Same H H'->H' D=some (.dK (cK ms))->Q (.ref D) H'
section
variable(K:W.Frag)
def Jh(_K:W.Frag):Sp:=fun vs H Q _=>∃(a:Addr) (ms:Ms) (k n:Int),vs=[.ref a,.int k,.int n]/\H a=some (.dK (cK ms))/\ms.length<=1000000/\Q .non (upd H a (.dK (cK (Gk ms k n))))
def p6(_K:W.Frag):Sp:=fun vs H Q _=>∃(a b:Addr) (ms ns:Ms),vs=[.ref a,.ref b]/\Rd H a (.dK (cK ms))/\H b=some (.dK (cK ns))/\ms.length<=1000/\ns.length<=1000/\newC H (C6 ms ns) Q
def Vf(_K:W.Frag):Sp:=fun vs H Q _=>∃(n:Int) (a:Addr) (ms:Ms),vs=[.int n,.ref a]/\H a=some (.dK (cK ms))/\ms.length<=1000/\(∀p∈ms,IntMulOk n p.2)/\newC H (Bg n ms) Q
end
def modI(p:Int)(ms:Ms):Ms:=(ms.filter fun q=>decide (q.2%p≠0)).map fun q=>(q.1,q.2%p)
def A3(ms:Ms):List Int:=ms.map (·.1)
theorem mG{p:Int}{ms:Ms}{x:Int}(h:x∈A3 (modI p ms)):x∈A3 ms:=by
 unfold A3 modI at h;rw[List.map_map]at h;obtain⟨q,hq,rfl⟩:=List.mem_map.mp h;exact List.mem_map.mpr ⟨q,(List.mem_filter.mp hq).1,rfl⟩
theorem MF{p:Int}{ms:Ms}(h:nd ms):nd (modI p ms):=by
 unfold nd modI;rw[List.map_map];exact(List.filter_sublist.map _).nodup h
theorem Il{p:Int}:∀{ms:Ms},nd ms->∀k,Au (modI p ms) k=Au ms k%p
 | [],_,k=>by simp[modI,Au,lookI]
 | q::ms,h,k=>by
   have h2:nd ms:=(List.nodup_cons.mp h).2;have h1:q.1 ∉ ms.map (·.1):=(List.nodup_cons.mp h).1;have ih:=Il (p:=p) h2 k;rw[J0];unfold modI at ih ⊢;by_cases hq:q.2%p≠0
   . rw[List.filter_cons_of_pos (by simpa using hq),List.map_cons,J0];by_cases hk:q.1=k
     . rw[if_pos hk,if_pos hk]
     . rw[if_neg hk,if_neg hk];exact ih
   . rw[List.filter_cons_of_neg (by simpa using hq),ih];by_cases hk:q.1=k
     . rw[if_pos hk,←hk,Ci h1];have:q.2%p=0:=by simpa using hq
       rw[this];simp
     . rw[if_neg hk]
structure Q9(p:Int)(ms:Ms):Prop where
 nd:nd ms
 bd:∀q∈ms,0<q.2/\q.2<p
theorem Q9.nz{p:Int}{ms:Ms}(h:Q9 p ms):nz ms:=fun q hq=>by have:=(h.bd q hq).1;omega
theorem z9{p:Int}{ms:Ms}(h:nd ms)(hp:0<p):Q9 p (modI p ms):=by
 refine⟨MF h,fun q hq=>?_⟩;obtain⟨r,hr,rfl⟩:=List.mem_map.mp hq;have h1:r.2%p≠0:=by simpa using(List.mem_filter.mp hr).2
 have h2:=Int.emod_nonneg r.2 (show p≠0 by omega);have h3:=Int.emod_lt_of_pos r.2 hp;exact⟨by omega,h3⟩
theorem GC(p:Int)(ms:Ms):(modI p ms).length<=ms.length:=by
 unfold modI;rw[List.length_map];exact List.length_filter_le ..
theorem Qs{ms:Ms}(h:nz ms){k:Int}:Au ms k≠0↔k∈A3 ms:=by
 constructor
 . intro hk;by_cases hm:k∈ms.map (·.1)
   . exact hm
   . exact absurd (Ci hm) hk
 . intro hk hz;have e:=MH h k;rw[if_pos hz]at e;obtain⟨q,hq,rfl⟩:=List.mem_map.mp hk;unfold lookI at e;cases hf:ms.find? (fun p=>decide (p.1=q.1)) with
   | none=>exact absurd (List.find?_eq_none.mp hf q hq) (by simp)
   | some r=>rw[hf]at e;simp at e
theorem Jz(n:Int):∀(ms:Ms) (k:Int),Au (Bg n ms) k=n*Au ms k:=fun ms k=>by
 unfold Bg;by_cases hn:n=0
 . rw[if_pos hn,hn];simp[Au,lookI]
 . rw[if_neg hn]
   induction ms with
   | nil=>simp[Au,lookI]
   | cons q ms ih =>
     rw[List.map_cons,J0,J0,ih];split<;>rfl
structure Nk(ms:Ms)(b:Int):Prop where
 mem:b∈A3 ms
 le:∀x∈A3 ms,x<=b
theorem Nk.one{ms:Ms}{b c:Int}(h1:Nk ms b)(h2:Nk ms c):b=c:=by
 have:=h1.le c h2.mem;have:=h2.le b h1.mem;omega
theorem bG{p f b:Int}{es fs:Ms}(hp:0<p)(he:Q9 p es)(hf:Q9 p fs)(te:Nk es b)(tf:Nk fs b)(hinv:p∣1-f*Au fs b) :
 Q9 p (modI p (C6 es (Bg (-(Au es b)*f) fs)))/\∀x∈A3 (modI p (C6 es (Bg (-(Au es b)*f) fs))),x<b/\(x∈A3 es\/x∈A3 fs):=by
 have OG:nd (Bg (-(Au es b)*f) fs):=by
  unfold Bg;split
  . exact List.nodup_nil
  . exact Kq hf.nd _
 obtain⟨n1,n2,n3,n4⟩:=Kn (Bg (-(Au es b)*f) fs) es he.nd he.nz OG;have gt:∀k,Au (Bg (-(Au es b)*f) fs) k=(-(Au es b)*f)*Au fs k:=fun k=>Jz _ fs k;have ok:=z9 n1 hp;refine⟨ok,fun x hx=>?_⟩;have KH:=(Qs ok.nz).mpr hx;rw[Il n1,n4,gt]at KH
 have hin:x∈A3 es\/x∈A3 fs:=by
  by_cases h1:x∈A3 es
  . exact .inl h1
  by_cases h2:x∈A3 fs
  . exact .inr h2
  . rw[Ci h1,Ci h2]at KH;simp at KH
 refine⟨?_,hin⟩
 have hle:x<=b:=by
  rcases hin with h | h
  . exact te.le x h
  . exact tf.le x h
 have hne:x≠b:=fun z=>by
  rw[z]at KH;apply KH;obtain⟨d,hd⟩:=hinv
  have:Au es b+-Au es b*f*Au fs b=p*(Au es b*d):=by
   have e:Au es b+-Au es b*f*Au fs b=Au es b*(1-f*Au fs b):=by grind
   rw[e,hd];grind
  rw[this];exact Int.mul_emod_right _ _
 omega
end Hb
namespace L2
open PySem PySem.Spec PyProof.Rows PySem.W
structure CU(P:Program)(w:World)(K:Frag)(mg:Str->Option Value)(base:Heap)(C:Addr)(m:Str)(ps:List Str)(k:Nat)(sp:Sp):Prop where
 ex:∃(f:Addr) (fd:FuncData),FP K C m f/\Ey K fd ps []/\Bj P w K mg base (oK P w) k f fd ps sp
theorem CU.down{P:Program}{w:World}{K:Frag}{mg:Str->Option Value}{base:Heap}{C:Addr}{m:Str}{ps:List Str}{k:Nat}{sp sp':Sp}(h:CU P w K mg base C m ps k sp)(hi:∀vs H Q E,sp' vs H Q E->sp vs H Q (fun _ _ _=>False)):J9 P w K mg base C m ps k sp':=by
 obtain⟨f,fd,h1,h3,h4⟩:=h.ex;refine⟨f,fd,h1,h3,⟨fun vs H Q E z=>h4.len vs H Q _ (hi vs H Q E z),fun A outer s H args us vs Q E hr he hb hv hs=>codeAny_mono (h4.run A outer s H args us vs Q _ hr he hb hv (hi vs H Q E hs)) fun r s' q=>?_⟩⟩;cases r with
 | error u =>
   obtain⟨_,_,_,_,_,_,_,_,_,_,_,_,_,z⟩:=q;exact z.elim
 | ok fl=>cases fl<;>exact q
def RI(C:Addr)(m:Str)(sp:Sp)(J:XJ)(ta:TE)(t:TA):TE:=fun σ H Q=>ta σ H fun x H1=>∃a dx fs,x=.ref a/\H1 a=some (.ins C dx fs)/\fs.lookup m=none ∧
 t σ H1 fun vs H2=>sp (x::vs) H2 Q (fun cls ed H3=>J cls ed σ H3)
section
variable{X:Cx}{J:XJ}{j k:Nat}{C:Addr}{ps:List Str}{sp:Sp}{m:Str}{pos apos:Pos}{e o:Expr}{es:List Expr}{ta:TE}{t:TA}
theorem LL{pl:Sem Bool}(hx:cW X J)(he:PE X o ta)(c:Cls X.K C)(h:CU X.prog X.w X.K X.mg X.base C m ps j sp)(hr:Di k X.A)(ha:PA X (e::es) t)(hk:j<=k:=by decide)
 (hst:starEach (e::es) X.env=(false,eval e X.env)::starEach es X.env:=by rfl) (hpl:(backTo pos (starEach es X.env)).any (·.1)=false:=by rfl)
 (ht:eval (.Call (.Attribute o m apos) (e::es) [] pos) X.env=(do
   let ov ←eval o X.env
   standAt apos.atName
   let (f,first) ←holding [ov] (getMethod ov m pl)
   callWith pos f first (backTo pos (starEach (e::es) X.env)) (backToKw pos (keywordEach [] X.env))):=by rfl) :
 PE X (.Call (.Attribute o m apos) (e::es) [] pos) (RI C m sp J ta t):=by
 obtain⟨f,fd,hm,hb,F⟩:=h.ex;intro Ac s σ H Q I hw;refine methodCall_KW (pl:=pl) (Bu (he Ac s σ H _ I hw) fun u s1 ⟨x,H1,I1,rx,a,dx,fs,ex,ea,l,q⟩=>?_) ht;subst ex;obtain rfl:u=Value.ref a:=rx;refine K6 I1 ea c hm l ?_;refine callWith_K (first:=[.ref a]) (h₀:=X.base) I.ok.mod.kin hm.kp (Bu (ha pos Ac s1 σ H1 _ I1 q) fun us s2 ⟨vs,H2,I2,r,q2⟩=>⟨I2.kIn,?_⟩) hst hpl;exact FT (us:=.ref a::us) (vs:=.ref a::vs) F (hr.mono hk) hb hx I2 (.cons rfl r) q2
end
def hBare(K:Frag)(C:Addr)(ts:TS)(th:Ends->XJ):Ends->XJ:=fun D cls dx σ H=>∃(C':Addr) (b:Bool),cls=.ref C'/\subIn K (.ref C') (.ref C)=some b/\if b=true then ts D σ H else th D cls dx σ H
theorem oZ{X:Cx}{th:Ends->XJ}{x:Str}{C:Addr}{np hpos:Pos}{b0:Stmt}{bs:List Stmt}{ts:TS}{rest:List ExceptHandler}(hg:Gl X x)(hm:X.mg x=some (.ref C))(hC:ktsIn X.K C "BaseException"=true)
 (hs:∀e,BB (X.suite e) (b0::bs) ts) (hr:PH X rest th) (hdb:(x==("__debug__":Str))=false:=by decide):PH X (.ExceptHandler (some (.Name x np)) none (b0::bs) hpos::rest) (hBare X.K C ts th):=by
 intro Ac s σ H D e cls a0 dx F h;obtain⟨C',b,rfl,hb,h⟩:=h;have I:=F.inv.1;obtain⟨nm,qn,N,bs',bm,hdct,sn,sub,ab,col,dd,k0,k1,k2,k3,k5,nid,zV,hbase,_⟩:=kts_cls I.kIn hC;have F':=F;obtain⟨B,H0,S,I0,q1,q2,q3,q4,q5,dE⟩:=F';obtain⟨oe,he,hcls⟩:=q5.there;refine wpAny_handleBy_cons (codeAny_handlers_test (Gf (X:=X.suite e) (I.suite e) hg hm ?_ hdb)) (by intro q;cases q);have LS:Looks (model X.prog X.w) s.heap (isSubtype (.ref C') (.ref C)) b:=looks_subIn I.kIn hb;obtain⟨sh,sg,sd,st,so⟩:=s;refine f9 zV he hcls hbase LS ?_;cases b with
 | false =>
   rw[if_neg Bool.false_ne_true]at h;exact hr Ac _ σ H D e _ a0 dx F h
 | true =>
   rw[if_pos rfl]at h;refine codeAny_handlers_suite ?_;refine wpAny_mono (Db (Gg _ _) (lands_againW (E:=fun _ _=>False) (Q:=fun _ s2=>∃h6,s2={ (⟨sh,sg,sd,st,so⟩:Shared) with heap:=h6 }/\Heap.FlyingW B X.stack e (.ref C') a0 h6/\sh.UpToSlots h6) q5 fun h6 f6 rG=>⟨h6,rfl,f6,rG⟩)) (fun _ s2 ⟨⟨h6,e6,f6,rG⟩,kd⟩=>?_) (fun _ _ z=>z.1.elim);subst e6;have F6:=FlyAt.step I0 q1 q2 q3 q4 q5 f6 rG (dE.go kd);have I6:=F6.inv.1;refine wpAny_mono (hs e Ac _ σ H D (I6.suite e) h) (fun f s8 q=>?_) fun _ _ z=>z.elim;cases f with
   | next=>obtain⟨σ',H',I8,q⟩:=q;exact⟨σ',H',I8.unsuite I.ok,q⟩
   | brk=>obtain⟨σ',H',I8,q⟩:=q;exact⟨σ',H',I8.unsuite I.ok,q⟩
   | cont=>obtain⟨σ',H',I8,q⟩:=q;exact⟨σ',H',I8.unsuite I.ok,q⟩
   | ret u=>obtain⟨v,σ',H',I8,r,q⟩:=q;exact⟨v,σ',H',I8.unsuite I.ok,r,q⟩
end L2
namespace L2
open PySem PySem.Spec PyProof.Rows PySem.SeqAt
section
variable{X:Cx}
section
variable{o e:Expr}{es:List Expr}{to:TE}{t:TA}{name:Str}{apos cpos:Pos}{id:String}{r:V->List V->Hp->VK->Prop}
end
end
end L2
namespace L2
open PySem PySem.Spec PyProof.Rows
def mS:Expr->Option Int
 | .Constant (.int i) _ _=>some i
 | _=>none
def Wx:List Expr->Option (List Int)
 | []=>some []
 | e::es=>match mS e,Wx es with
   | some i,some is=>some (i::is)
   | _,_=>none
def qJ(ns:List Int):TA:=fun _ H Q=>Q (ns.map V.int) H
theorem fX{X:Cx}:∀{es:List Expr}{ns:List Int},Wx es=some ns->PA X es (qJ ns)
 | [],ns,h=>by
   cases h;exact Af
 | e::es,ns,h=>by
   unfold Wx at h;cases e1:mS e with
   | none=>rw[e1]at h;cases h
   | some i =>
     cases e2:Wx es with
     | none=>rw[e1,e2]at h;cases h
     | some is =>
       rw[e1,e2]at h;cases h;unfold mS at e1;split at e1
       case h_2=>cases e1
       case h_1 =>
        cases e1;exact Aa Aj (fX e2)
structure WW(X:Cx)(es:List Expr)(t:TA):Prop where
 h:PA X es t
theorem PD{X:Cx}:WW X [] oO:=⟨Af⟩
theorem Fv{X:Cx}{e:Expr}{es:List Expr}{te:TE}{t:TA}(ha:PE X e te)(hr:WW X es t)(hs:starEach (e::es) X.env=(false,eval e X.env)::starEach es X.env:=by rfl):WW X (e::es) (QJ te t):=⟨Aa ha hr.h hs⟩
theorem LP{X:Cx}{es:List Expr}{ns:List Int}(h:Wx es=some ns):WW X es (qJ ns):=⟨fX h⟩
end L2
namespace Hb
open PySem L2
def X5(xs:LLInt):Prop:=∀x∈xs,x.length=0\/x.length=2\/x.length=3\/x.length=4
theorem D4{α:Type}{l:List α}{i:Nat}{d:α}(h:i<l.length):l.getD i d∈l:=by
 rw[List.getD_eq_getElem?_getD,List.getElem?_eq_getElem h];exact List.getElem_mem h
theorem X5.at{xs:LLInt}(h:X5 xs){f:Int}(h0:0<=f)(h1:f<(xs.length:Int)):(xs.getD f.toNat []).length=0\/(xs.getD f.toNat []).length=2\/(xs.getD f.toNat []).length=3\/(xs.getD f.toNat []).length=4:=h _ (D4 (by omega))
section
variable(K:W.Frag)
def Np(_K:W.Frag):Sp:=fun vs H Q _=>∃(c j m:Int),vs=[.int c,.int j,.int m]/\0<m/\∀(r:Int) (H':Hp),Same H H'->0<=r->r<m->Q (.int r) H'
def Rm:Sp:=fun vs H Q _=>∃(a:Addr) (xs:LLInt) (c:Int),vs=[.ref a,.int c]/\LT K H (.ref a) xs/\xs.length<=1000/\∀(w:V) (p:List Int) (H':Hp),Same H H'->TI K H' w p->Q w H'
def Rn:Sp:=fun vs H Q _=>∃(a:Addr) (xs:LLInt) (c:Int),vs=[.ref a,.int c]/\LT K H (.ref a) xs/\X5 xs/\xs.length<=1000/\∀(w:V) (p:List Int) (H':Hp),Same H H'->TI K H' w p->Q w H'
end
theorem Ni{sp:List Int}{x:Int}(h0:0<=x)(h1:x<(sp.length:Int)):Uw (sp.map V.int) x=some (.int (sp.getD x.toNat 0)):=by
 obtain⟨j,rfl⟩:=Int.eq_ofNat_of_zero_le h0;have hj:j<sp.length:=by omega
 rw[Int.toNat_natCast];exact Ft (by rw[List.getElem?_map,List.getElem?_eq_getElem hj,List.getD_eq_getElem?_getD,List.getElem?_eq_getElem hj];rfl)
end Hb
namespace Hb
end Hb
namespace Hb
open PySem L2
theorem BY{α:Type}{l:List α}{i:Nat}{d:α}:l.getD i d∈l\/l.getD i d=d:=by
 rw[List.getD_eq_getElem?_getD];by_cases h:i<l.length
 . rw[List.getElem?_eq_getElem h];exact .inl (List.getElem_mem h)
 . rw[List.getElem?_eq_none (by omega)];exact .inr rfl
section
variable{K:W.Frag}{H:Hp}
end
section
variable(K:W.Frag)
end
end Hb
namespace L2
open PySem PySem.Spec PyProof.Rows
abbrev TJ:=St->Hp->(Hp->Prop)->Prop
def tJN:TJ:=fun _ H Q=>Q H
def tJC(te:TE)(tj:TJ):TJ:=fun σ H Q=>te σ H fun v H1=>∃y:Str,v=.str y/\y.length<=100000/\tj σ H1 Q
def PJ(X:Cx)(es:List Expr)(tj:TJ):Prop:=∀(Ac:LAObj) (s:Shared) (σ:St) (H:Hp) (acc:Str) (Q:Hp->Prop),Inv X Ac σ H s->acc.length+100000*es.length<=1000000->tj σ H Q →
 Joins (model X.prog X.w) X.A X.xe (evalEach es X.env) acc (fun out s'=>out.length<=1000000/\∃H',Inv X Ac σ H' s'/\Q H') s
theorem Wv{M:Model}{A:Around}{E:Value->Shared->Prop}:∀{parts:List (Sem Value)}{acc:Str}{Q Q':Str->Shared->Prop}{s:Shared},Joins M A E parts acc Q s->(∀x s,Q x s->Q' x s)->Joins M A E parts acc Q' s
 | [],acc,Q,Q',s,h,f=>f _ _ h
 | x::rest,acc,Q,Q',s,h,f=>wpAny_mono (show wpAny M A x _ E s from h) (fun v s1 ⟨y,t,e,hz,hr⟩=>⟨y,t,e,hz,Wv hr f⟩) fun _ _ z=>z
section
variable{X:Cx}{e v₁ v₂:Expr}{es rest:List Expr}{te:TE}{tj:TJ}{pos:Pos}
theorem LI:PJ X [] tJN:=fun Ac s σ H acc Q I hl h=>⟨by simpa using hl,H,I,h⟩
theorem Nx(he:PE X e te)(hr:PJ X es tj):PJ X (e::es) (tJC te tj):=by
 intro Ac s σ H acc Q I hl h;show wpAny _ _ (eval e X.env) _ _ s;refine Bu (he Ac s σ H _ I h) fun u s1 ⟨v,H1,I1,r,y,ev,hy,q⟩=>?_;subst ev;obtain⟨t,rfl⟩:=r;have hl2:(acc++y).length=acc.length+y.length:=strLen_append ..;have hl3:acc.length+100000*(es.length+1)<=1000000:=hl;refine⟨y,t,rfl,?_,hr Ac s1 σ H1 (acc++y) Q I1 (by rw[hl2];omega) q⟩;rw[hl2,sizeLine_eq];omega
def uS(tj:TJ):TE:=fun σ H Q=>tj σ H fun H'=>∀x:Str,x.length<=1000000->Q (.str x) H'
theorem FW(h:PJ X (v₁::v₂::rest) tj)(hl:rest.length<=7:=by decide):PE X (.JoinedStr (v₁::v₂::rest) pos) (uS tj):=by
 intro Ac s σ H Q I hw;refine wpAny_JoinedStr (Wv (h Ac s σ H Str.empty _ I ?_ hw) fun out s' ⟨hz,H',I',q⟩=>⟨?_,.str out,H',I'.tok _,⟨_,rfl⟩,q out hz⟩)
 . show 0+100000*(rest.length+2)<=1000000;omega
 . rw[sizeLine_eq];omega
def yL(te:TE):TE:=fun σ H Q=>te σ H fun v H1=>(∃i:Int,v=.int i/\i.natAbs.log2<1920/\∀x:Str,x.length<=100000->Q (.str x) H1)\/∃x:Str,v=.str x/\x.length<=100000/\Q (.str x) H1
theorem LM(he:PE X e te):PE X (.FormattedValue e (-1) none pos) (yL te):=by
 intro Ac s σ H Q I hw;refine wpAny_FormattedValue_plain (Bu (he Ac s σ H _ I hw) fun u s1 ⟨v,H1,I1,r,q⟩=>?_);rcases q with⟨i,rfl,hi,q⟩|⟨x,rfl,hx,q⟩
 . obtain⟨t,rfl⟩:=r;refine PySem.wpAny_formatField_int hi ⟨.str (toString i),H1,I1.tok _,⟨_,rfl⟩,q _ ?_⟩;have:=int_text_length_le (k:=1920) (by decide) hi;rw[PySem.ofString_length];omega
 . obtain⟨t,rfl⟩:=r;exact PySem.wpAny_formatField_str ⟨.str x,H1,I1,⟨_,rfl⟩,q⟩ ⟨.str x,H1,I1.tok _,⟨_,rfl⟩,q⟩ (by rw[sizeLine_eq];omega)
end
end L2
namespace Hb
open PySem L2
theorem vP:(40:Int).natAbs.log2<1920:=Nat.lt_of_lt_of_le ((Nat.log2_lt (k:=7) (by decide)).mpr (by decide)) (by decide)
section
variable(K:W.Frag)
def Iv(C:Addr):Sp:=fun vs H Q E=>∃(a:Addr) (us:List V),vs=[.ref a]/\SqL K H a us/\(us.length<=40->Q .non H)/\(40<us.length->∀H',Same H H'->E (.ref C) none H')
end
end Hb
namespace L2
open PySem PySem.Spec PyProof.Rows PySem.SeqAt
theorem Wl(a b:Addr)(ms ns:List (Int × Int)):Meets (Builtin.«dict.__ne__» ⟨[.ref a,.ref b],[]⟩) (fun A R s=>Q0 s.heap a ms/\Q0 s.heap b ns/\R (.ok (.ret (.bool (!(ms.length==ns.length&&ms.all fun p=>decide (lookI ns p.1=some p.2)))))) s) :=
 Meets.of_wp fun prog w A R s hs=>by
  obtain⟨ha,hb,h⟩:=hs
  show wpAny (model prog w) A.in1 (do
   let (self,other) ←Builtin.Dict.dictSlotArgs "__ne__" ⟨[.ref a,.ref b],[]⟩
   if !(←isInstance other (.type "dict")) then rule s!"dict.{"__ne__"}.not-a-dict";return ←ret .notImplemented
   ret (.bool ((←Builtin.Dict.samePairs s!"dict.{"__ne__"}" (←Builtin.Dict.addrOf self) (←Builtin.Dict.addrOf other))==false))) _ _ s
  unfold Builtin.Dict.dictSlotArgs;refine wpAny_bind (wpAny_bind (wpAny_notOrdered_dict ha.typeIs ?_));refine wpAny_bind (wpAny_pure ?_);refine wpAny_pure ?_;refine wpAny_bind (wpAny_isInstance (T:="dict") (b:=true) hb.typeIs isSubtype_dict_dict ?_);rw[if_neg (by decide)];refine wpAny_bind (wpAny_pure (wpAny_bind (wpAny_pure (wpAny_bind (u9 ha hb ?_)))));have e:∀b:Bool,(b==false)=!b:=by decide
  rw[e];exact wpAny_pure ⟨_,rfl,h⟩
theorem RcNeAt.dicts{A:Around}{s:Shared}{a b:Addr}{ms ns:List (Int × Int)}(ha:Q0 s.heap a ms)(hb:Q0 s.heap b ns)(hu:A.units<cLine) :
 RcNeAt A s (.ref a) (.ref b) (!(ms.length==ns.length&&ms.all fun p=>decide (lookI ns p.1=some p.2))):=fun prog w E Q h =>
 richCompare_meets_room (op:=.NotEq) ha.typeIs hb.typeIs PySem.F.slot_dict_ne PySem.F.entry_dict_ne (PySem.F.args_dict_ne_2 _ _) (Wl a b ms ns)
  ⟨ha,hb,show Value.bool (!(ms.length==ns.length&&ms.all fun p=>decide (lookI ns p.1=some p.2)))≠Value.notImplemented/\_ from⟨(fun x=>nomatch x),h⟩⟩ hu
def YQ:R2:=fun x y H Q=>∃a b ms ns,x=.ref a/\y=.ref b/\Rd H a (.dK (cK ms))/\Rd H b (.dK (cK ns))/\Q (.bl (!sameC ms ns)) H
section
variable{X:Cx}{n:Nat}{K:W.Frag}
theorem rZ(hu:X.A.units+n<cLine):OpR X (compareOp .NotEq) YQ:=by
 intro Ac s σ H x y v u Q I rx ry h;obtain⟨a,b,ms,ns,rfl,rfl,ha,hb,q⟩:=h;cases rx;cases ry;exact RcNeAt.dicts (I.idict ha) (I.idict hb) (by omega) X.prog X.w X.xe _ ⟨.bl (!sameC ms ns),H,I,rfl,q⟩
end
end L2
namespace L2
open PySem PySem.Spec PyProof.Rows
section
variable{prog:Program}{w:World}{A:Around}{E:Value->Shared->Prop}{s:Shared}
theorem F3{j t:Addr}{n:Nat}{vs:Array Value}{x:Value}{Q:Value->Shared->Prop}(g:s.heap.IsTupleIter j t n)(gt:s.heap.IsTuple t vs)(gx:vs[n]?=some x)
 (k:∀h',h'.IsTupleIter j t (n+1)->Heap.SameBut j s.heap h'->Q x { s with heap:=h' }):wpAny (model prog w) A (Builtin.SmallTypes.nextOf (.ref j)) Q E s:=by
 obtain⟨o,q1,q2,q3⟩:=id g;obtain⟨p,p1,_,m,p2⟩:=gt;unfold Builtin.SmallTypes.nextOf;refine wpAny_bind (wpAny_callSpecial?_slot (name:=Str.ofString "__next__") g.typeIs F.slot_tuple_iterator_next (wpAny_call_entry F.slot_tuple_iterator_next g.typeIs F.entry_tuple_iterator_next ?_ (F.args_tuple_iterator_next_1 _)));show wpAny _ _ (field (.ref j) 0>>=_) _ _ s;refine wpAny_bind (wpAny_field q1 q3 (x:=.ref t) rfl ?_);show wpAny _ _ (if (Value.ref t==Value.none)=true then _ else _) _ _ s;rw[if_neg (show ¬((Value.ref t==Value.none)=true) from Bool.false_ne_true)];show wpAny _ _ (field (.ref j) 1>>=_) _ _ s;refine wpAny_bind (wpAny_field q1 q3 (x:=.int n 0) rfl ?_);show wpAny _ _ (seqItems? (.ref t)>>=_) _ _ s;refine wpAny_bind (wpAny_seqItems p1 p2 ?_);simp only[Int.toNat_natCast,gx];refine wpAny_bind (wpAny_setField q1 q3 (by simp) (wpAny_pure ⟨x,rfl,wpAny_pure (k _ ?_ (Heap.SameBut.update ..))⟩));exact⟨_,Heap.get?_update_self _ q1 (Obj.isFreed_of_fields (Obj.data_mapFields q3 _)),(Obj.cls_mapFields ..).trans q2,by rw[Obj.data_mapFields q3];simp[rawInt]⟩
theorem Mx{j t:Addr}{n:Nat}{vs:Array Value}{Q:Value->Shared->Prop}(hn:A.handled=none)(g:s.heap.IsTupleIter j t n)(gt:s.heap.IsTuple t vs)(gx:vs[n]?=none)
 (k:∀h' e,Heap.ExtBut j s.heap h'->(∃o,h'.get? e=some o/\o.cls=.type "StopIteration")->E (.ref e) { s with heap:=h' }):wpAny (model prog w) A (Builtin.SmallTypes.nextOf (.ref j)) Q E s:=by
 obtain⟨o,q1,q2,q3⟩:=id g;obtain⟨p,p1,_,m,p2⟩:=gt;unfold Builtin.SmallTypes.nextOf;refine wpAny_bind (wpAny_callSpecial?_slot (name:=Str.ofString "__next__") g.typeIs F.slot_tuple_iterator_next (wpAny_call_entry F.slot_tuple_iterator_next g.typeIs F.entry_tuple_iterator_next ?_ (F.args_tuple_iterator_next_1 _)));show wpAny _ _ (field (.ref j) 0>>=_) _ _ s;refine wpAny_bind (wpAny_field q1 q3 (x:=.ref t) rfl ?_);show wpAny _ _ (if (Value.ref t==Value.none)=true then _ else _) _ _ s;rw[if_neg (show ¬((Value.ref t==Value.none)=true) from Bool.false_ne_true)];show wpAny _ _ (field (.ref j) 1>>=_) _ _ s;refine wpAny_bind (wpAny_field q1 q3 (x:=.int n 0) rfl ?_);show wpAny _ _ (seqItems? (.ref t)>>=_) _ _ s;refine wpAny_bind (wpAny_seqItems p1 p2 ?_);simp only[Int.toNat_natCast,gx];refine wpAny_bind (wpAny_rule (wpAny_bind (wpAny_setField q1 q3 (by simp) ?_)));show wpAny _ _ (newExc (.type "StopIteration") []>>=_) _ _ _;refine wpAny_bind ?_;simp only[newExc,newTuple];refine wpAny_bind (wpAny_newObj_type ?_ (by size_fits));refine wpAny_bind (m:=firstArgMember _ _) (wpAny_of_eq (a:=Value.none) (by first | rfl | (simp only[firstArgMember];rfl)) ?_);refine wpAny_newObj_type ?_ (by size_fits);simp only[raiseNew];refine wpAny_bind (wpAny_handled ?_)
 first | rw[show A.in1.handled=none from hn] | rw[hn]
 refine wpAny_bind (wpAny_pure (wpAny_throw ?_));exact k _ _ (((Heap.SameBut.update ..).extBut.push _).push _) ⟨_,Heap.get?_push_size _ rfl,rfl⟩
theorem GY{z a b i1 i2 t1 t2:Addr}{n m:Nat}{xs ys:Array Value}{x y u v:Value}{Q:Value->Shared->Prop}(D:ZipApart z a b i1 i2 t1 t2)(gz:IsZip s.heap z a b .none)(ga:IsPair s.heap a (.ref i1) (.ref i2))(gb:IsPair s.heap b u v)
 (g1:s.heap.IsTupleIter i1 t1 n) (g2:s.heap.IsTupleIter i2 t2 m) (e1:s.heap.IsTuple t1 xs) (e2:s.heap.IsTuple t2 ys) (gx:xs[n]?=some x) (gy:ys[m]?=some y)
 (k:∀h',IsZip h' z a b (rawInt s.heap.objs.size)->IsPair h' b x y->h'.IsTupleIter i1 t1 (n+1)->h'.IsTupleIter i2 t2 (m+1)->IsPair h' s.heap.objs.size x y->h'.objs.size=s.heap.objs.size+1 →
   (∀c o,c≠z->c≠b->c≠i1->c≠i2->s.heap.get? c=some o->h'.get? c=some o)->Q (.ref s.heap.objs.size) { s with heap:=h' }) :
 wpAny (model prog w) A (Builtin.«zip.__next__» ⟨[.ref z],[]⟩) (fun fin s'=>∃r,fin=.done (.ret r)/\Q r s') E s:=by
 show wpAny _ _ (field (.ref z) 2>>=_) _ _ _;refine wpAny_bind (wpAny_field gz rfl (x:=.bool false) rfl ?_);show wpAny _ _ (field (.ref z) 3>>=_) _ _ _;refine wpAny_bind (wpAny_field gz rfl (x:=.ref a) rfl ?_);refine wpAny_bind (wpAny_seqItems ga rfl ?_);show wpAny _ _ (Builtin.SmallTypes.ownedTupleIsFree (.ref z)>>=_) _ _ _;refine wpAny_bind ?_;unfold Builtin.SmallTypes.ownedTupleIsFree;refine wpAny_bind (wpAny_field gz rfl (x:=.none) rfl (wpAny_pure ?_));simp only[if_true];refine wpAny_bind (wpAny_rule ?_);refine wpAny_bind (wpAny_field gz rfl (x:=.ref b) rfl ?_);refine wpAny_bind (wpAny_setField_rec gz (by simp) fun k1 TM w1=>?_)
 replace TM:IsZip k1 z a b .ellipsis:=TM
 refine wpAny_bind ?_;simp only[List.zipIdx_cons,List.zipIdx_nil,List.forIn_cons,List.forIn_nil];refine wpAny_bind (wpAny_bind (wpAny_onRaise ?_));show wpAny _ _ (Builtin.SmallTypes.nextOf (.ref i1)>>=_) _ _ _;refine wpAny_bind (F3 (g1.extBut w1.extBut D.i1z) (e1.extBut w1.extBut D.l1z) gx fun k2 f1 w2=>wpAny_pure ?_);have gb2:IsPair k2 b u v:=w2.extBut _ _ D.TOi1 (w1.extBut _ _ D.TOz gb);refine wpAny_bind (wpAny_seqItems gb2 rfl ?_);refine wpAny_bind (wpAny_updateSeq_pair gb2 fun k3 gb3 w3=>?_)
 replace gb3:IsPair k3 b x v:=gb3
 refine wpAny_bind (wpAny_letGo (wpAny_pure ?_));refine wpAny_bind (wpAny_bind (wpAny_onRaise ?_));show wpAny _ _ (Builtin.SmallTypes.nextOf (.ref i2)>>=_) _ _ _;refine wpAny_bind (F3 (((g2.extBut w1.extBut D.i2z).extBut w2.extBut D.i12.symm).extBut w3.extBut D.TOi2.symm) (((e2.extBut w1.extBut D.l2z).extBut w2.extBut D.l2i1).extBut w3.extBut D.l2TO) gy fun k4 f2 w4=>wpAny_pure ?_);have gb4:IsPair k4 b x v:=w4.extBut _ _ D.TOi2 gb3;refine wpAny_bind (wpAny_seqItems gb4 rfl ?_);refine wpAny_bind (wpAny_updateSeq_pair gb4 fun k5 XU w5=>?_)
 replace XU:IsPair k5 b x y:=XU
 refine wpAny_bind (wpAny_letGo (wpAny_pure (wpAny_pure ?_)));refine wpAny_bind (wpAny_seqItems XU rfl ?_);refine wpAny_bind (wpAny_newTuple ?_);have sz:k5.objs.size=s.heap.objs.size:=by rw[w5.1,w4.1,w3.1,w2.1,w1.1]
 have gz5:IsZip k5 z a b .ellipsis:=w5.extBut _ _ D.TOz.symm (w4.extBut _ _ D.i2z.symm (w3.extBut _ _ D.TOz.symm (w2.extBut _ _ D.i1z.symm TM)));have kp:∀c o,c≠z->c≠b->c≠i1->c≠i2->s.heap.get? c=some o->k5.get? c=some o:=fun c o c1 c2 c3 c4 e=>w5.extBut _ _ c2 (w4.extBut _ _ c4 (w3.extBut _ _ c2 (w2.extBut _ _ c3 (w1.extBut _ _ c1 e))));have f15:k5.IsTupleIter i1 t1 (n+1):=((f1.extBut w3.extBut D.TOi1.symm).extBut w4.extBut D.i12).extBut w5.extBut D.TOi1.symm;have f25:k5.IsTupleIter i2 t2 (m+1):=f2.extBut w5.extBut D.TOi2.symm;have lz:z<k5.objs.size:=Heap.lt_size gz5;show wpAny _ _ (Builtin.SmallTypes.ownedTupleHandOut (.ref z) (.ref k5.objs.size)>>=_) _ _ _;refine wpAny_bind ?_;unfold Builtin.SmallTypes.ownedTupleHandOut;have gz6:IsZip (k5.push { cls:=.type "tuple",data:=.seq #[x,y] }) z a b .ellipsis:=Heap.get?_push_of_some _ gz5;refine wpAny_bind (wpAny_setField_rec gz6 (by simp) fun k7 ZX w7=>?_)
 replace ZX:IsZip k7 z a b (rawInt k5.objs.size):=ZX
 refine wpAny_setField_rec ZX (by simp) fun k8 XR w8=>?_
 replace XR:IsZip k8 z a b (rawInt k5.objs.size):=XR
 have up:∀c o,c≠z->k5.get? c=some o->k8.get? c=some o:=fun c o c1 e=>w8.extBut _ _ c1 (w7.extBut _ _ c1 (Heap.get?_push_of_some _ e));have gt:IsPair k8 k5.objs.size x y:=w8.extBut _ _ (Nat.ne_of_gt lz) (w7.extBut _ _ (Nat.ne_of_gt lz) (Heap.get?_push_size _ rfl));have s8:k8.objs.size=k5.objs.size+1:=by rw[w8.1,w7.1,Heap.size_push]
 rw[sz]at XR gt s8;refine wpAny_pure ⟨_,rfl,?_⟩;show Q (.ref k5.objs.size) _;rw[sz];exact k k8 XR (up _ _ D.TOz XU) (f15.at fun o e=>up _ o D.i1z e) (f25.at fun o e=>up _ o D.i2z e) gt s8 fun c o c1 c2 c3 c4 e=>up c o c1 (kp c o c1 c2 c3 c4 e)
theorem kL{z a b i1 i2 t1 t2:Addr}{n m:Nat}{xs ys:Array Value}{u v:Value}{Q:PySem.Fin->Shared->Prop}(hn:A.handled=none)(D:ZipApart z a b i1 i2 t1 t2)(gz:IsZip s.heap z a b .none)(ga:IsPair s.heap a (.ref i1) (.ref i2))(gb:IsPair s.heap b u v)
 (g1:s.heap.IsTupleIter i1 t1 n) (g2:s.heap.IsTupleIter i2 t2 m) (e1:s.heap.IsTuple t1 xs) (e2:s.heap.IsTuple t2 ys) (gx:xs[n]?=none)
 (k:∀h' e,(∀c o,c≠z->c≠b->c≠i1->c≠i2->s.heap.get? c=some o->h'.get? c=some o)->(∃o,h'.get? e=some o/\o.cls=.type "StopIteration")->E (.ref e) { s with heap:=h' }) :
 wpAny (model prog w) A (Builtin.«zip.__next__» ⟨[.ref z],[]⟩) Q E s:=by
 show wpAny _ _ (field (.ref z) 2>>=_) _ _ _;refine wpAny_bind (wpAny_field gz rfl (x:=.bool false) rfl ?_);show wpAny _ _ (field (.ref z) 3>>=_) _ _ _;refine wpAny_bind (wpAny_field gz rfl (x:=.ref a) rfl ?_);refine wpAny_bind (wpAny_seqItems ga rfl ?_);show wpAny _ _ (Builtin.SmallTypes.ownedTupleIsFree (.ref z)>>=_) _ _ _;refine wpAny_bind ?_;unfold Builtin.SmallTypes.ownedTupleIsFree;refine wpAny_bind (wpAny_field gz rfl (x:=.none) rfl (wpAny_pure ?_));simp only[if_true];refine wpAny_bind (wpAny_rule ?_);refine wpAny_bind (wpAny_field gz rfl (x:=.ref b) rfl ?_);refine wpAny_bind (wpAny_setField_rec gz (by simp) fun k1 TM w1=>?_)
 replace TM:IsZip k1 z a b .ellipsis:=TM
 refine wpAny_bind ?_;simp only[List.zipIdx_cons,List.zipIdx_nil,List.forIn_cons,List.forIn_nil];refine wpAny_bind (wpAny_bind (wpAny_onRaise ?_));show wpAny _ _ (Builtin.SmallTypes.nextOf (.ref i1)>>=_) _ _ _;refine wpAny_bind (Mx hn (g1.extBut w1.extBut D.i1z) (e1.extBut w1.extBut D.l1z) gx fun k2 e w2 he=>?_);obtain⟨oe,ge,ce⟩:=he;have gz2:IsZip k2 z a b .ellipsis:=w2 _ _ D.i1z.symm TM;have ne:e≠z:=fun q=>by subst q;rw[gz2]at ge;cases ge;simp at ce
 refine wpAny_setField_rec gz2 (by simp) fun k3 _ w3=>k k3 e (fun c o c1 _ c3 _ q=>w3.extBut _ _ c1 (w2 _ _ c3 (w1.extBut _ _ c1 q))) ⟨oe,w3.extBut _ _ ne ge,ce⟩
theorem Wh{z a b i1 i2 t1 t2:Addr}{n m:Nat}{xs ys:Array Value}{x y u v:Value}{Q:Option Value->Shared->Prop}(D:ZipApart z a b i1 i2 t1 t2)(gz:IsZip s.heap z a b .none)(ga:IsPair s.heap a (.ref i1) (.ref i2))(gb:IsPair s.heap b u v)
 (g1:s.heap.IsTupleIter i1 t1 n) (g2:s.heap.IsTupleIter i2 t2 m) (e1:s.heap.IsTuple t1 xs) (e2:s.heap.IsTuple t2 ys) (gx:xs[n]?=some x) (gy:ys[m]?=some y)
 (k:∀h',IsZip h' z a b (rawInt s.heap.objs.size)->IsPair h' b x y->h'.IsTupleIter i1 t1 (n+1)->h'.IsTupleIter i2 t2 (m+1)->IsPair h' s.heap.objs.size x y->h'.objs.size=s.heap.objs.size+1 →
   (∀c o,c≠z->c≠b->c≠i1->c≠i2->s.heap.get? c=some o->h'.get? c=some o)->Q (some (.ref s.heap.objs.size)) { s with heap:=h' }):wpAny (model prog w) A (pyNext (.ref z)) Q E s:=by
 have ht:s.TypeIs (.ref z) "zip":=⟨_,gz,rfl⟩
 unfold pyNext;exact wpAny_bind (wpAny_attempt (wpAny_callSpecial?_slot (name:=Str.ofString "__next__") ht F.slot_zip_next (wpAny_call_entry F.slot_zip_next ht F.entry_zip_next (GY D gz ga gb g1 g2 e1 e2 gx gy fun h' a1 a2 a3 a4 a5 a6 a7=>wpAny_pure (k h' a1 a2 a3 a4 a5 a6 a7)) (F.args_zip_next_1 _))))
theorem Y8{z a b i1 i2 t1 t2:Addr}{n m:Nat}{xs ys:Array Value}{u v:Value}{Q:Option Value->Shared->Prop}(hn:A.handled=none)(D:ZipApart z a b i1 i2 t1 t2)(gz:IsZip s.heap z a b .none)(ga:IsPair s.heap a (.ref i1) (.ref i2))(gb:IsPair s.heap b u v)
 (g1:s.heap.IsTupleIter i1 t1 n) (g2:s.heap.IsTupleIter i2 t2 m) (e1:s.heap.IsTuple t1 xs) (e2:s.heap.IsTuple t2 ys) (gx:xs[n]?=none)
 (k:∀h',(∀c o,c≠z->c≠b->c≠i1->c≠i2->s.heap.get? c=some o->h'.get? c=some o)->Q none { s with heap:=h' }):wpAny (model prog w) A (pyNext (.ref z)) Q E s:=by
 have ht:s.TypeIs (.ref z) "zip":=⟨_,gz,rfl⟩
 unfold pyNext;refine wpAny_bind (wpAny_attempt (wpAny_callSpecial?_slot (name:=Str.ofString "__next__") ht F.slot_zip_next (wpAny_call_entry F.slot_zip_next ht F.entry_zip_next (kL hn D gz ga gb g1 g2 e1 e2 gx fun h' e kp he=>?_) (F.args_zip_next_1 _))));obtain⟨o,q1,q2⟩:=he;exact wpAny_bind (wpAny_isInstance (T:="StopIteration") (b:=true) ⟨o,q1,q2⟩ isSubtype_stop (wpAny_pure (k _ kp)))
end
abbrev zt1(h:Heap)(a:Addr):Heap:=h.push { cls:=.type "tuple_iterator",data:=.fields #[.ref a,.int 0 0] }
abbrev xA(h:Heap)(a b:Addr):Heap:=(zt1 h a).push { cls:=.type "tuple_iterator",data:=.fields #[.ref b,.int 0 0] }
abbrev WZ(h:Heap)(a b:Addr):Heap:=(xA h a b).push { cls:=.type "tuple",data:=.seq #[.ref h.objs.size,.ref (zt1 h a).objs.size] }
abbrev wZ(h:Heap)(a b:Addr):Heap:=(WZ h a b).push { cls:=.type "tuple",data:=.seq #[.none,.none] }
abbrev rE(h:Heap)(a b:Addr):Heap:=(wZ h a b).push { cls:=.type "zip",data:=.fields #[.none,.bool false,.bool false,.ref (xA h a b).objs.size,.ref (WZ h a b).objs.size] }
theorem kK(a b:Addr)(xs ys:Array Value):Meets (Builtin.«zip.__new__» ⟨[.type "zip",.ref a,.ref b],[]⟩) (fun _ R s=>s.heap.IsTuple a xs/\s.heap.IsTuple b ys/\R (.ok (.ret (.ref (wZ s.heap a b).objs.size))) { s with heap:=rE s.heap a b }) :=
 .of_wp fun prog w A R s h=>by
  obtain⟨hp,g,d,tk,os⟩:=s;obtain⟨h1,h2,h⟩:=h;have hsub:=sub_zip;have g1:Heap.IsTuple (Shared.heap ⟨hp,g,d,tk,os⟩) a xs:=h1;have g2:Heap.IsTuple (Shared.heap ⟨hp.push { cls:=.type "tuple_iterator",data:=.fields #[.ref a,.int 0 0] },g,d,tk,os⟩) b ys:=Heap.IsTuple.push h2 _
  wp_walk using wpAny_pyIter_tuple g1,wpAny_pyIter_tuple g2
  exact⟨_,rfl,h⟩
section
variable{prog:Program}{w:World}{A:Around}{E:Value->Shared->Prop}{s:Shared}
theorem JV{a b:Addr}{xs ys:Array Value}{Q:Value->Shared->Prop}(h1:s.heap.IsTuple a xs)(h2:s.heap.IsTuple b ys)
 (k:∀h',IsZip h' (s.heap.objs.size+4) (s.heap.objs.size+2) (s.heap.objs.size+3) .none->IsPair h' (s.heap.objs.size+2) (.ref s.heap.objs.size) (.ref (s.heap.objs.size+1)) →
   IsPair h' (s.heap.objs.size+3) .none .none->h'.IsTupleIter s.heap.objs.size a 0->h'.IsTupleIter (s.heap.objs.size+1) b 0->h'.objs.size=s.heap.objs.size+5 →
   (∀c o,s.heap.get? c=some o->h'.get? c=some o)->Q (.ref (s.heap.objs.size+4)) { s with heap:=h' }):wpAny (model prog w) A (call (.type "zip") [.ref a,.ref b]) Q E s:=by
 refine callType_new F.called_zip (by decide) (F.typeCall_zip_2 _ _) (F.newCall_zip_2 _ _) (fun obj=>F.args_object_init_3 obj _ _) F.entry_zip_new (kK a b xs ys) ⟨h1,h2,?_⟩;have z1:(zt1 s.heap a).objs.size=s.heap.objs.size+1:=Heap.size_push ..;have z2:(xA s.heap a b).objs.size=s.heap.objs.size+2:=by rw[Heap.size_push,z1]
 have z3:(WZ s.heap a b).objs.size=s.heap.objs.size+3:=by rw[Heap.size_push,z2]
 have z4:(wZ s.heap a b).objs.size=s.heap.objs.size+4:=by rw[Heap.size_push,z3]
 have z5:(rE s.heap a b).objs.size=s.heap.objs.size+5:=by rw[Heap.size_push,z4]
 have q5:(rE s.heap a b).get? (wZ s.heap a b).objs.size=some _:=Heap.get?_push_size _ rfl;have q4:(rE s.heap a b).get? (WZ s.heap a b).objs.size=some _:=Heap.get?_push_of_some _ (Heap.get?_push_size _ rfl);have q3:(rE s.heap a b).get? (xA s.heap a b).objs.size=some _:=Heap.get?_push_of_some _ (Heap.get?_push_of_some _ (Heap.get?_push_size _ rfl));have q2:(rE s.heap a b).get? (zt1 s.heap a).objs.size=some _:=Heap.get?_push_of_some _ (Heap.get?_push_of_some _ (Heap.get?_push_of_some _ (Heap.get?_push_size _ rfl)));have q1:(rE s.heap a b).get? s.heap.objs.size=some _:=Heap.get?_push_of_some _ (Heap.get?_push_of_some _ (Heap.get?_push_of_some _ (Heap.get?_push_of_some _ (Heap.get?_push_size _ rfl))));show _/\_;rw[z2,z3,z4]at q5;rw[z1,z2]at q3;rw[z3]at q4;rw[z1]at q2;rw[z4];exact⟨⟨_,q5,rfl⟩,k _ q5 q3 q4 ⟨_,q1,rfl,rfl⟩ ⟨_,q2,rfl,rfl⟩ z5 fun c o x=>Heap.get?_push_of_some _ (Heap.get?_push_of_some _ (Heap.get?_push_of_some _ (Heap.get?_push_of_some _ (Heap.get?_push_of_some _ x))))⟩
end
def Ityp(K:W.Frag)(a b:Addr):It :=
 ⟨fun i H=>∃xs ys x y,Dw K H a xs/\Dw K H b ys/\xs[i]?=some x/\ys[i]?=some y,
  fun i H v H'=>∃p x y,H p=none/\v=.ref p/\H'=upd H p (.tup [x,y])/\(∀xs,Dw K H a xs->xs[i]?=some x)/\∀ys,Dw K H b ys->ys[i]?=some y,
  fun i H=>∃xs ys,Dw K H a xs/\Dw K H b ys/\xs.length<=i⟩
theorem HC{P:Program}{w:World}{K:W.Frag}{es:List Expr}{x1:Nat}{tpos:Pos}(a b z TI TO i1 i2:Addr)(D:ZipApart z TI TO i1 i2 a b) :
 Uy P w K (.Tuple es x1 tpos) (Ityp K a b) [z,TI,TO,i1,i2] z (fun i h=>IsZip h z TI TO .none/\IsPair h TI (.ref i1) (.ref i2)/\(∃c d,IsPair h TO c d)/\h.IsTupleIter i1 a i/\h.IsTupleIter i2 b i) where
 mem:=by simp
 obj:=fun i h st c hc=>by
  obtain⟨hz,hTI,⟨u,v,hTO⟩,⟨o1,h1,c1,d1⟩,⟨o2,h2,c2,d2⟩⟩:=st;simp only[List.mem_cons,List.not_mem_nil,or_false]at hc;rcases hc with rfl | rfl | rfl | rfl | rfl
  . exact⟨_,hz,fun v q=>by cases (show Data.fields _=Data.cell v from q)⟩
  . exact⟨_,hTI,fun v q=>by cases (show Data.seq _ _=Data.cell v from q)⟩
  . exact⟨_,hTO,fun v q=>by cases (show Data.seq _ _=Data.cell v from q)⟩
  . exact⟨o1,h1,fun v q=>by rw[d1]at q;cases q⟩
  . exact⟨o2,h2,fun v q=>by rw[d2]at q;cases q⟩
 keep:=fun i h h' st k=>by
  obtain⟨hz,hTI,⟨u,v,hTO⟩,h1,h2⟩:=st;exact⟨k z (by simp) _ hz,k TI (by simp) _ hTI,⟨u,v,k TO (by simp) _ hTO⟩,h1.at fun o q=>k i1 (by simp) o q,h2.at fun o q=>k i2 (by simp) o q⟩
 item:=by
  intro X hP hw hK hc i Ac s σ H E I hf st hg;subst hP hw hK;obtain⟨hz,hTI,⟨u0,v0,hTO⟩,h1,h2⟩:=st;obtain⟨xs,ys,x,y,Ur,d9,hx,hy⟩:=hg;obtain⟨ia,ra,pa,_⟩:=I.tuple Ur;obtain⟨ib,rb,pb,_⟩:=I.tuple d9;obtain⟨u,hu,ru⟩:=ra.get hx;obtain⟨v,hv,rv⟩:=rb.get hy;have hfresh:H s.heap.objs.size=none:=I.hok.fresh (Nat.le_refl _);have vO:=Heap.lt_size hz;refine Wh D hz hTI hTO h1 h2 (show s.heap.IsTuple a ia.toArray from pa) (show s.heap.IsTuple b ib.toArray from pb) (x:=u) (y:=v) (by simpa using hu) (by simpa using hv) fun h' hz' tH W3 h2' htup hsz hk=>?_;refine⟨_,rfl,wpAny_letOwnedTupleGo_zip hz' fun h3 zF Ka=>?_⟩
  replace Ka:Heap.SameBut z h' h3:=Ka
  have kk:∀c o,c ∉ [z,TI,TO,i1,i2]->s.heap.get? c=some o->h3.get? c=some o:=fun c o hc e=>by
   simp only[List.mem_cons,List.not_mem_nil,or_false,not_or]at hc;obtain⟨n1,n2,n3,n4,n5⟩:=hc;exact(Ka.2 c n1).trans (hk c o n1 n3 n4 n5 e)
  have PU:h3.get? s.heap.objs.size=some { cls:=.type "tuple",data:=.seq #[u,v] }:=(Ka.2 _ (Nat.ne_of_gt vO)).trans htup;have hi1:h3.IsTupleIter i1 a (i+1):=W3.at fun o e=>(Ka.2 i1 D.i1z).trans e;have hi2:h3.IsTupleIter i2 b (i+1):=h2'.at fun o e=>(Ka.2 i2 D.i2z).trans e;have tK:IsPair h3 TI (.ref i1) (.ref i2):=(Ka.2 TI D.TIz).trans (hk _ _ D.TIz D.TITO D.TIi1 D.TIi2 hTI);have tG:IsPair h3 TO u v:=(Ka.2 TO D.TOz).trans tH;have Y7:∀c o,H c=some o->c ∉ [z,TI,TO,i1,i2]:=fun c o e hm=>by rw[(hf c hm).1]at e;cases e
  have Qh:∀c o,H c=some o->c≠s.heap.objs.size:=fun c o e=>Ap e hfresh;refine⟨.ref s.heap.objs.size,upd H s.heap.objs.size (.tup [x,y]),?_,rfl,⟨s.heap.objs.size,x,y,hfresh,rfl,rfl,fun zs q=>by rw[I.tuple_inj q Ur];exact hx,fun zs q=>by rw[I.tuple_inj q d9];exact hy⟩,⟨zF,tK,⟨_,_,tG⟩,hi1,hi2⟩,fun c hc=>?_⟩
  . refine Inv.step (s:=s) (h':=h3) (t':=s.toks) (H':=upd H s.heap.objs.size (.tup [x,y])) I (g':=s.gens) (d':=s.drawn) (ch:=[z,TI,TO,i1,i2]) (fun c hc=>?_) (fun c o _ _ hc e _=>kk c o hc e) (fun c o _ _ hc e _=>⟨o.slots,kk c o hc e⟩) (fun c o hc e n=>?_) (fun c o hc e=>⟨o,kk c o hc e⟩)
     (fun c zs e=>by rw[Ae (Qh c _ e)];exact e) (fun c o w' e=>by rw[Ae (Qh c _ e)];exact e) (fun c ps e=>⟨#[],by rw[Ae (Qh c _ e),e];simp⟩) (fun m hm=>?_) (fun c w' e=>?_) I.bare
    . have f:=hf c hc;exact⟨f.2.2.2.1,f.2.1,f.2.2.2.2.1,f.2.2.2.2.2⟩
    . rw[Ae (Nat.ne_of_lt (Heap.lt_size e))];exact n
    . obtain⟨o,es',ep,ho,r⟩:=hm;exact⟨o,es',ep,kk _ o (fun q=>(hf _ q).2.1 rfl) ho,r⟩
    . by_cases hcs:c=s.heap.objs.size
      . subst hcs;rw[Ad]at e;cases e;exact⟨(by show(2:Nat)<=sizeLine;decide),[u,v],.cons ru (.cons rv .nil),⟨_,PU,rfl,rfl,_,rfl⟩⟩
      . rw[Ae hcs]at e;refine(I.hok c w' e).stay (fun c' y' hc' q=>?_) (fun c' q=>by rw[Ae (Qh c' _ q)];exact q) fun c' zs q=>by rw[Ae (Qh c' _ q)];exact q
        rcases hc' with rfl | hc'
        . exact kk _ _ (Y7 _ _ e) q
        . exact kk _ _ (Y7 _ _ hc') q
  . have lb:c<s.heap.objs.size:=by
     simp only[List.mem_cons,List.not_mem_nil,or_false]at hc;obtain⟨o1,q1,_⟩:=h1;obtain⟨o2,q2,_⟩:=h2;rcases hc with rfl | rfl | rfl | rfl | rfl
     . exact vO
     . exact Heap.lt_size hTI
     . exact Heap.lt_size hTO
     . exact Heap.lt_size q1
     . exact Heap.lt_size q2
    rw[Ae (Nat.ne_of_lt lb)];exact(hf c hc).1
 done:=by
  intro X hP hw hK hc i Ac s σ H E I hf st hg;subst hP hw hK;obtain⟨hz,hTI,⟨u0,v0,hTO⟩,h1,h2⟩:=st;obtain⟨xs,ys,Ur,d9,hx⟩:=hg;obtain⟨ia,ra,pa,_⟩:=I.tuple Ur;obtain⟨ib,rb,pb,_⟩:=I.tuple d9;have la:=ra.length;have lb:=rb.length;refine Y8 (I.ok.hd hc) D hz hTI hTO h1 h2 (show s.heap.IsTuple a ia.toArray from pa) (show s.heap.IsTuple b ib.toArray from pb) ?_ fun h' hk=>⟨rfl,I.turnedN (t':=s.toks) (fp:=[z,TI,TO,i1,i2]) (fun c o hc e=>?_) hf⟩
  . simp;omega
  . simp only[List.mem_cons,List.not_mem_nil,or_false,not_or]at hc;obtain⟨n1,n2,n3,n4,n5⟩:=hc;exact hk c o n1 n3 n4 n5 e
 self:=fun _ _ _ _ _ st h=>wpAny_pyIter_zip st.1 h
def vS(K:W.Frag)(ta:TA):TI:=fun σ H R=>ta σ H fun vs H1=>∃a b,vs=[.ref a,.ref b]/\(∃xs,Dw K H1 a xs)/\(∃ys,Dw K H1 b ys)/\R (Ityp K a b) H1
theorem fK:bootBuiltins "zip"=some (.type "zip"):=by decide +kernel
theorem oX{X:Cx}{K:W.Frag}{es:List Expr}{x1:Nat}{tpos:Pos}{a b:Expr}{ta:TA}{p pos:Pos}(hg:Gl X "zip")(hm:X.mg "zip"=none)(ha:PA X [a,b] ta)(hK:X.K=K:=by rfl)(hs:starEach [a,b] X.env=[(false,eval a X.env),(false,eval b X.env)]:=by rfl)(hs2:starEach [b] X.env=[(false,eval b X.env)]:=by rfl) :
 PI X (.Tuple es x1 tpos) (.Call (.Name "zip" p) [a,b] [] pos) (vS K ta):=by
 subst hK;intro Ac s σ H R I h;refine Call_ (Ja I hg hm fK (PyProof.Rows.callWith_type1 (Bu (ha pos Ac s σ H _ I h) fun us s1 ⟨vs,H1,I1,r1,q1⟩=>?_) (by rw[hs,hs2]) (by rw[hs2];rfl)));obtain⟨la,lb,e,⟨xs,Ur⟩,⟨ys,d9⟩,q⟩:=q1;subst e;cases r1 with
 | cons ra rr =>
   cases rr with
   | cons rb rr =>
     cases rr;cases ra;cases rb;obtain⟨ia,_,pa,_⟩:=I1.tuple Ur;obtain⟨ib,_,pb,_⟩:=I1.tuple d9;have a1:la<s1.heap.objs.size:=by obtain⟨_,e,_⟩:=pa;exact Heap.lt_size e
     have a2:lb<s1.heap.objs.size:=by obtain⟨_,e,_⟩:=pb;exact Heap.lt_size e
     refine JV (show s1.heap.IsTuple la ia.toArray from pa) (show s1.heap.IsTuple lb ib.toArray from pb) fun h' hz hTI hTO hi1 hi2 hsz hk=>?_;refine wpAny_pyIter_zip hz ⟨s1.heap.objs.size+4,[s1.heap.objs.size+4,s1.heap.objs.size+2,s1.heap.objs.size+3,s1.heap.objs.size,s1.heap.objs.size+1],_,_,H1,rfl,I1.kept (t':=s1.toks) hk,HC la lb _ _ _ _ _ (zipApart_new a1 a2),⟨hz,hTI,⟨_,_,hTO⟩,hi1,hi2⟩,fun c hc=>?_,q⟩
     have lc:s1.heap.objs.size<=c:=by
      simp only[List.mem_cons,List.not_mem_nil,or_false]at hc;rcases hc with rfl | rfl | rfl | rfl | rfl
      . exact Nat.le_add_right _ _
      . exact Nat.le_add_right _ _
      . exact Nat.le_add_right _ _
      . exact Nat.le_refl _
      . exact Nat.le_add_right _ _
     exact I1.fpOk lc (I1.hok.fresh lc)
section
variable{g:TG}{tc:TT}{te:TE}{D:Addr}{Q:Hp->Prop}{τ:St}{H:Hp}
theorem jU{K:W.Frag}{a b:Addr}{xs ys:List V}{n:Nat}(hn:xs.length=n/\ys.length=n)(Pv:Nat->List V->St->Hp->Prop)(h0:Pv 0 [] τ H)(hl:∀i zs τ H,i<=n->Pv i zs τ H->Dw K H a xs/\Dw K H b ys)
 (hs:∀i x y zs τ H p,xs[i]?=some x->ys[i]?=some y->Pv i zs τ H->H p=none->g (.ref p) τ (upd H p (.tup [x,y])) fun τ2 H2=>tc τ2 H2 fun b H3=>if b=true then te τ2 H3 fun y H4=>H4 D=some (.lst zs)/\zs.length<sizeLine/\Pv (i+1) (zs++[y]) τ2 (upd H4 D (.lst (zs++[y]))) else Pv (i+1) zs τ2 H3)
 (hd:∀zs τ H,Pv n zs τ H->Q H):Qz (Ityp K a b) g tc te D Q τ H:=by
 refine⟨fun i m zs τ H=>m=n-i/\i<=n/\Pv i zs τ H,⟨n,by simp,Nat.zero_le _,h0⟩,?_⟩;rintro i m zs τ H ⟨rfl,hi,pp⟩;obtain⟨qa,qb⟩:=hl i zs τ H hi pp;by_cases hlt:i<n
 . refine .inr ⟨⟨xs,ys,xs[i],ys[i],qa,qb,by simp<;>omega,by simp<;>omega⟩,Pv (i+1),fun ys' τ' H' p'=>⟨n-(i+1),by omega,rfl,hlt,p'⟩,fun x H' y=>?_⟩;obtain⟨p,u,v,hp,rfl,rfl,y1,y2⟩:=y;exact hs i u v zs τ _ p (y1 xs qa) (y2 ys qb) pp hp
 . have e:i=n:=by omega
   subst e;exact .inl ⟨⟨xs,ys,qa,qb,by omega⟩,hd zs τ H pp⟩
end
end L2
namespace L2
open PySem PySem.Spec PyProof.Rows
open AutoSeq1 (wpAny_loadPart')
theorem JJ(t:Addr)(vs:Array Value)(n:Nat)(dd:OAddr)(sl:Bd):Meets (Builtin.«enumerate.__new__» ⟨[.type "enumerate",.ref t],[]⟩) (fun _ R s=>s.heap.get? t=some { cls:=.type "tuple",dict:=dd,data:=.seq vs n,slots:=sl } ∧
 R (.ok (.ret (.ref (zt1 s.heap t).objs.size))) { s with heap:=(zt1 s.heap t).push { cls:=.type "enumerate",data:=.fields #[.none,.bool false,.ref s.heap.objs.size,rawInt 0,.none,.none] } }) :=
 .of_wp fun prog w A R s h=>by
  obtain⟨hp,g,d,tk,os⟩:=s;obtain⟨q1,q2⟩:=h;have hsub:=sub_enumerate;have gt:Heap.IsTuple (Shared.heap ⟨hp,g,d,tk,os⟩) t vs:=⟨_,q1,rfl,n,rfl⟩
  wp_walk using wpAny_loadPart' q1
  refine wpAny_stack_any fun st=>wpAny_pure ?_;split
  . rename_i c _ _ _ _ _
    cases (c==Value.type "enumerate")
    . wp_walk using wpAny_loadPart' q1,wpAny_pyIter_tuple gt
      exact⟨_,rfl,q2⟩
    . wp_walk using wpAny_loadPart' q1,wpAny_pyIter_tuple gt
      exact⟨_,rfl,q2⟩
  . wp_walk using wpAny_loadPart' q1,wpAny_pyIter_tuple gt
    exact⟨_,rfl,q2⟩
section
variable{prog:Program}{w:World}{A:Around}{E:Value->Shared->Prop}{s:Shared}
theorem fC{e j t:Addr}{n:Nat}{vs:Array Value}{x old:Value}{Q:Value->Shared->Prop}(ge:IsEnum s.heap e j n old)(gj:s.heap.IsTupleIter j t n)(gt:s.heap.IsTuple t vs)(gx:vs[n]?=some x)(ne:e≠j)
 (k:∀h',IsEnumOut h' e j ((n:Int)+1) x s.heap.objs.size->h'.IsTupleIter j t (n+1)->h'.get? s.heap.objs.size=some { cls:=.type "tuple",data:=.seq #[.int n s.toks,x] }->h'.objs.size=s.heap.objs.size+1 →
   (∀b o,b≠e->b≠j->s.heap.get? b=some o->h'.get? b=some o)->Q (.ref s.heap.objs.size) { s with heap:=h',toks:=s.toks+1 }) :
 wpAny (model prog w) A (Builtin.«enumerate.__next__» ⟨[.ref e],[]⟩) (fun fin s'=>∃r,fin=.done (.ret r)/\Q r s') E s:=by
 obtain⟨hp,g,d,tk,os⟩:=s;show wpAny _ _ (field (.ref e) 2>>=_) _ _ _;refine wpAny_bind (wpAny_field ge rfl (x:=.ref j) rfl ?_);refine wpAny_bind (F3 gj gt gx fun k1 gj1 w1=>?_)
 replace w1:Heap.SameBut j hp k1:=w1
 have ge1:IsEnum k1 e j n old:=(w1.2 e ne).trans ge;show wpAny _ _ (field (.ref e) 3>>=_) _ _ ⟨k1,g,d,tk,os⟩;refine wpAny_bind (wpAny_field ge1 rfl (x:=rawInt n) rfl ?_);show wpAny _ _ (field (.ref e) 4>>=_) _ _ ⟨k1,g,d,tk,os⟩;refine wpAny_bind (wpAny_field ge1 rfl (x:=.none) rfl ?_);show wpAny _ _ (mkInt n>>=_) _ _ ⟨k1,g,d,tk,os⟩;refine wpAny_bind (wpAny_mkInt ?_);show wpAny _ _ (setField (.ref e) 3 (rawInt ((n:Int)+1))>>=_) _ _ ⟨k1,g,d,tk+1,os⟩;refine wpAny_bind (wpAny_setField_rec ge1 (by simp) fun k2 xU w2=>?_)
 replace w2:Heap.SameBut e k1 k2:=w2
 replace xU:IsEnum k2 e j ((n:Int)+1) old:=xU
 show wpAny _ _ (setField (.ref e) 4 .none>>=_) _ _ ⟨k2,g,d,tk+1,os⟩;refine wpAny_bind (wpAny_setField_rec xU (by simp) fun k3 XT w3=>?_)
 replace w3:Heap.SameBut e k2 k3:=w3
 replace XT:IsEnum k3 e j ((n:Int)+1) old:=XT
 show wpAny _ _ (newTuple [.int n tk,x]>>=_) _ _ ⟨k3,g,d,tk+1,os⟩;refine wpAny_bind (wpAny_newTuple ?_);have xT:IsEnum (k3.push { cls:=.type "tuple",data:=.seq #[.int n tk,x] }) e j ((n:Int)+1) old:=Heap.get?_push_of_some _ XT;generalize wA:k3.push { cls:=.type "tuple",data:=.seq #[.int n tk,x] }=k4 at xT;have sz:k3.objs.size=hp.objs.size:=by rw[w3.1,w2.1,w1.1]
 have le:e<hp.objs.size:=Heap.lt_size ge;have gt4:k4.get? hp.objs.size=some { cls:=.type "tuple",data:=.seq #[.int n tk,x] }:=by rw[←wA,←sz];exact Heap.get?_push_size _ rfl
 have sz4:k4.objs.size=hp.objs.size+1:=by rw[←wA,Heap.size_push,sz]
 have kp4:∀b o,b≠e->b≠j->hp.get? b=some o->k4.get? b=some o:=fun b o n1 n2 q=>by
  rw[←wA];exact Heap.get?_push_of_some _ (w3.extBut b o n1 (w2.extBut b o n1 (w1.extBut b o n2 q)))
 have gj4:k4.IsTupleIter j t (n+1):=by
  rw[←wA];obtain⟨o,q,r⟩:=(gj1.extBut w2.extBut (Ne.symm ne)).extBut w3.extBut (Ne.symm ne);exact⟨o,Heap.get?_push_of_some _ q,r⟩
 show wpAny _ _ (Builtin.SmallTypes.ownedTupleIsFree (.ref e)>>=_) _ _ ⟨k4,g,d,tk+1,os⟩;rw[sz];clear wA XT w3 xU w2 ge1 w1 gj1 sz k3 k2 k1;refine wpAny_bind ?_;unfold Builtin.SmallTypes.ownedTupleIsFree;refine wpAny_bind (wpAny_field xT rfl (x:=.none) rfl (wpAny_pure ?_));simp only[if_true];refine wpAny_bind (wpAny_rule ?_);refine wpAny_bind (wpAny_field xT rfl (x:=old) rfl ?_);refine wpAny_bind (wpAny_setField_rec xT (by simp) fun k5 ZZ w5=>?_)
 replace w5:Heap.SameBut e k4 k5:=w5
 replace ZZ:IsEnum k5 e j ((n:Int)+1) x:=ZZ
 show wpAny _ _ (Builtin.SmallTypes.ownedTupleHandOut (.ref e) (.ref hp.objs.size)>>=_) _ _ ⟨k5,g,d,tk+1,os⟩;refine wpAny_bind ?_;unfold Builtin.SmallTypes.ownedTupleHandOut;refine wpAny_bind (wpAny_setField_rec ZZ (by simp) fun k6 zZ w6=>?_)
 replace w6:Heap.SameBut e k5 k6:=w6
 replace zZ:IsEnumOut k6 e j ((n:Int)+1) x hp.objs.size:=zZ
 refine wpAny_setField_rec zZ (by simp) fun k7 ZY w7=>?_
 replace w7:Heap.SameBut e k6 k7:=w7
 replace ZY:IsEnumOut k7 e j ((n:Int)+1) x hp.objs.size:=ZY
 refine wpAny_bind (wpAny_letGo (wpAny_pure ⟨_,rfl,k k7 ZY ?_ ?_ ?_ ?_⟩))
 . exact((gj4.extBut w5.extBut (Ne.symm ne)).extBut w6.extBut (Ne.symm ne)).extBut w7.extBut (Ne.symm ne)
 . exact w7.extBut _ _ (Nat.ne_of_gt le) (w6.extBut _ _ (Nat.ne_of_gt le) (w5.extBut _ _ (Nat.ne_of_gt le) gt4))
 . rw[w7.1,w6.1,w5.1,sz4]
 . exact fun b o n1 n2 q=>w7.extBut b o n1 (w6.extBut b o n1 (w5.extBut b o n1 (kp4 b o n1 n2 q)))
theorem Um{e j t:Addr}{n:Nat}{vs:Array Value}{x old:Value}{Q:Option Value->Shared->Prop}(ge:IsEnum s.heap e j n old)(gj:s.heap.IsTupleIter j t n)(gt:s.heap.IsTuple t vs)(gx:vs[n]?=some x)(ne:e≠j)
 (k:∀h',IsEnumOut h' e j ((n:Int)+1) x s.heap.objs.size->h'.IsTupleIter j t (n+1)->h'.get? s.heap.objs.size=some { cls:=.type "tuple",data:=.seq #[.int n s.toks,x] }->h'.objs.size=s.heap.objs.size+1 →
   (∀b o,b≠e->b≠j->s.heap.get? b=some o->h'.get? b=some o)->Q (some (.ref s.heap.objs.size)) { s with heap:=h',toks:=s.toks+1 }):wpAny (model prog w) A (pyNext (.ref e)) Q E s:=by
 have ht:s.TypeIs (.ref e) "enumerate":=⟨_,ge,rfl⟩
 unfold pyNext;exact wpAny_bind (wpAny_attempt (wpAny_callSpecial?_slot (name:=Str.ofString "__next__") ht F.slot_enumerate_next (wpAny_call_entry F.slot_enumerate_next ht F.entry_enumerate_next (fC ge gj gt gx ne fun h' a b c d q=>wpAny_pure (k h' a b c d q)) (F.args_enumerate_next_1 _))))
theorem Wi{e j t:Addr}{n:Nat}{vs:Array Value}{old:Value}{Q:Option Value->Shared->Prop}(hn:A.handled=none)(ge:IsEnum s.heap e j n old)(gj:s.heap.IsTupleIter j t n)(gt:s.heap.IsTuple t vs)(gx:vs[n]?=none)
 (k:∀h',Heap.ExtBut j s.heap h'->Q none { s with heap:=h' }):wpAny (model prog w) A (pyNext (.ref e)) Q E s:=by
 have ht:s.TypeIs (.ref e) "enumerate":=⟨_,ge,rfl⟩
 unfold pyNext;refine wpAny_bind (wpAny_attempt (wpAny_callSpecial?_slot (name:=Str.ofString "__next__") ht F.slot_enumerate_next (wpAny_call_entry F.slot_enumerate_next ht F.entry_enumerate_next ?_ (F.args_enumerate_next_1 _))));show wpAny _ _ (field (.ref e) 2>>=_) _ _ _;refine wpAny_bind (wpAny_field ge rfl (x:=.ref j) rfl ?_);refine wpAny_bind (Mx hn gj gt gx fun h' x he hx=>?_);obtain⟨o,q1,q2⟩:=hx;exact wpAny_bind (wpAny_isInstance (T:="StopIteration") (b:=true) ⟨o,q1,q2⟩ isSubtype_stop (wpAny_pure (k _ he)))
theorem FJ{t:Addr}{vs:Array Value}{Q:Value->Shared->Prop}(gt:s.heap.IsTuple t vs)
 (k:∀h',IsEnum h' (s.heap.objs.size+1) s.heap.objs.size 0 .none->h'.IsTupleIter s.heap.objs.size t 0->h'.objs.size=s.heap.objs.size+2->(∀b o,s.heap.get? b=some o->h'.get? b=some o)->Q (.ref (s.heap.objs.size+1)) { s with heap:=h' }) :
 wpAny (model prog w) A (call (.type "enumerate") [.ref t]) Q E s:=by
 obtain⟨⟨c,dd,dt,sl⟩,q,qc,n,qd⟩:=gt
 replace qc:c=.type "tuple":=qc
 replace qd:dt=.seq vs n:=qd
 subst qc qd;refine callType_new F.called_enumerate (by decide) (F.typeCall_enumerate_1 _) (F.newCall_enumerate_1 _) (fun obj=>F.args_object_init_2 obj _) F.entry_enumerate_new (JJ t vs n dd sl) ⟨q,?_⟩;have z1:(zt1 s.heap t).objs.size=s.heap.objs.size+1:=Heap.size_push ..;show _/\_;rw[z1]
 have ge:IsEnum ((zt1 s.heap t).push { cls:=.type "enumerate",data:=.fields #[.none,.bool false,.ref s.heap.objs.size,rawInt 0,.none,.none] }) (s.heap.objs.size+1) s.heap.objs.size 0 .none:=by
  have:=Heap.get?_push_size (zt1 s.heap t) (o:={ cls:=.type "enumerate",data:=.fields #[.none,.bool false,.ref s.heap.objs.size,rawInt 0,.none,.none] }) rfl;rw[z1]at this;exact this
 exact⟨⟨_,ge,rfl⟩,k _ ge ⟨_,Heap.get?_push_of_some _ (Heap.get?_push_size _ rfl),rfl,rfl⟩ (by rw[Heap.size_push,z1]) fun b o x=>Heap.get?_push_of_some _ (Heap.get?_push_of_some _ x)⟩
end
def IteT(K:W.Frag)(a:Addr):It :=
 ⟨fun i H=>∃xs x,Dw K H a xs/\xs[i]?=some x,fun i H x H'=>∃p v,H p=none/\x=.ref p/\H'=upd H p (.tup [.int i,v])/\∀xs,Dw K H a xs->xs[i]?=some v,fun i H=>∃xs,Dw K H a xs/\xs.length<=i⟩
theorem dJ{P:Program}{w:World}{K:W.Frag}{es:List Expr}{x1:Nat}{tpos:Pos}(a e it:Addr)(hne:e≠it):Uy P w K (.Tuple es x1 tpos) (IteT K a) [e,it] e (fun i h=>(∃old,IsEnum h e it (i:Int) old)/\h.IsTupleIter it a i) where
 mem:=by simp
 obj:=fun i h st b hb=>by
  obtain⟨⟨old,h1⟩,o,h2,c,d⟩:=st;rcases List.mem_cons.mp hb with rfl | hb
  . exact⟨_,h1,fun v z=>by cases (show Data.fields _=Data.cell v from z)⟩
  . have z:b=it:=by simpa using hb
    subst z;exact⟨o,h2,fun v z=>by rw[d]at z;cases z⟩
 keep:=fun i h h' st k=>by
  obtain⟨⟨old,h1⟩,h2⟩:=st;exact⟨⟨old,k e (by simp) _ h1⟩,h2.at fun o z=>k it (by simp) o z⟩
 item:=by
  intro X hP hw hK hc i Ac s σ H E I hf st hg;subst hP hw hK;obtain⟨⟨old,h1⟩,h2⟩:=st;obtain⟨xs,x,hq,hx⟩:=hg;obtain⟨its,rv,p,hz⟩:=I.tuple hq;obtain⟨u,hu,ru⟩:=rv.get hx;have fe:=hf e (by simp);have fi:=hf it (by simp);have VO:e<s.heap.objs.size:=Heap.lt_size h1;have hfresh:H s.heap.objs.size=none:=I.hok.fresh (Nat.le_refl _);refine Um h1 h2 (show s.heap.IsTuple a its.toArray from p) (x:=u) (by simpa using hu) hne fun h' hout sY htup hsz hk=>?_;refine⟨_,rfl,wpAny_letOwnedTupleGo_enum hout fun h3 hen Ka=>?_⟩
  replace Ka:Heap.SameBut e h' h3:=Ka
  have kk:∀b o,b≠e->b≠it->s.heap.get? b=some o->h3.get? b=some o:=fun b o n1 n2 z=>(Ka.2 b n1).trans (hk b o n1 n2 z);have PU:h3.get? s.heap.objs.size=some { cls:=.type "tuple",data:=.seq #[.int i s.toks,u] }:=(Ka.2 _ (Nat.ne_of_gt VO)).trans htup;have xO:h3.IsTupleIter it a (i+1):=sY.at fun o z=>(Ka.2 it hne.symm).trans z;have z7:∀b,b ∉ [e,it]->b≠e/\b≠it:=fun b hb=>by simpa using hb
  have Y7:∀b v,H b=some v->b≠e/\b≠it:=fun b v z=>⟨Ap z fe.1,Ap z fi.1⟩
  have Qh:∀b v,H b=some v->b≠s.heap.objs.size:=fun b v z=>Ap z hfresh;refine⟨.ref s.heap.objs.size,upd H s.heap.objs.size (.tup [.int i,x]),?_,rfl,⟨s.heap.objs.size,x,hfresh,rfl,rfl,fun ys hy=>by rw[I.tuple_inj hy hq];exact hx⟩,⟨⟨_,hen⟩,xO⟩,fun b hb=>?_⟩
  . refine Inv.step (s:=s) (h':=h3) (t':=s.toks+1) (H':=upd H s.heap.objs.size (.tup [.int i,x])) I (g':=s.gens) (d':=s.drawn) (ch:=[e,it]) (fun b hb=>?_) (fun b o _ _ hb z _=>kk b o (z7 b hb).1 (z7 b hb).2 z) (fun b o _ _ hb z _=>⟨o.slots,kk b o (z7 b hb).1 (z7 b hb).2 z⟩) (fun b o hb z n=>?_) (fun b o hb z=>⟨o,kk b o (z7 b hb).1 (z7 b hb).2 z⟩)
     (fun b ys z=>by rw[Ae (Qh b _ z)];exact z) (fun b o v z=>by rw[Ae (Qh b _ z)];exact z) (fun b ps z=>⟨#[],by rw[Ae (Qh b _ z),z];simp⟩) (fun m hm=>?_) (fun b v z=>?_) I.bare
    . rcases List.mem_cons.mp hb with rfl | hb
      . exact⟨fe.2.2.2.1,fe.2.1,fe.2.2.2.2.1,fe.2.2.2.2.2⟩
      . have z:b=it:=by simpa using hb
        subst z;exact⟨fi.2.2.2.1,fi.2.1,fi.2.2.2.2.1,fi.2.2.2.2.2⟩
    . rw[Ae (Nat.ne_of_lt (Heap.lt_size z))];exact n
    . obtain⟨o,es',ep,ho,r⟩:=hm;exact⟨o,es',ep,kk _ o fe.2.1.symm fi.2.1.symm ho,r⟩
    . by_cases hb:b=s.heap.objs.size
      . subst hb;rw[Ad]at z;cases z;exact⟨(by show(2:Nat)<=sizeLine;decide),[.int i s.toks,u],.cons ⟨_,rfl⟩ (.cons ru .nil),⟨_,PU,rfl,rfl,_,rfl⟩⟩
      . rw[Ae hb]at z;refine(I.hok b v z).stay (fun c y hc' q=>?_) (fun c q=>by rw[Ae (Qh c _ q)];exact q) fun c ys q=>by rw[Ae (Qh c _ q)];exact q
        rcases hc' with rfl | hc'
        . exact kk _ _ (Y7 _ _ z).1 (Y7 _ _ z).2 q
        . exact kk _ _ (Y7 _ _ hc').1 (Y7 _ _ hc').2 q
  . have lb:b<s.heap.objs.size:=by
     rcases List.mem_cons.mp hb with rfl | hb
     . exact VO
     . have z:b=it:=by simpa using hb
       subst z;obtain⟨o,z,_⟩:=h2;exact Heap.lt_size z
    rw[Ae (Nat.ne_of_lt lb)];exact(hf b hb).1
 done:=by
  intro X hP hw hK hc i Ac s σ H E I hf st hg;subst hP hw hK;obtain⟨⟨old,h1⟩,h2⟩:=st;obtain⟨xs,hq,hx⟩:=hg;obtain⟨its,rv,p,hz⟩:=I.tuple hq;obtain⟨f0,f1,f2,f3,f4,f5⟩:=hf it (by simp);have hl:=rv.length;exact Wi (I.ok.hd hc) h1 h2 (show s.heap.IsTuple a its.toArray from p) (by simp;omega) fun h' eb=>⟨rfl,I.turned (t':=s.toks) (fun b o hb z=>eb b o hb z) f0 f1 f3 f4 f5⟩
 self:=fun _ _ _ _ _ st h=>by
  obtain⟨⟨old,h1⟩,h2⟩:=st;exact wpAny_pyIter_enum h1 h
def SV(K:W.Frag)(ta:TA):TI:=fun σ H R=>ta σ H fun vs H1=>∃a,vs=[.ref a]/\(∃xs,Dw K H1 a xs)/\R (IteT K a) H1
theorem Ti:bootBuiltins "enumerate"=some (.type "enumerate"):=by decide +kernel
theorem LJ{X:Cx}{K:W.Frag}{es:List Expr}{x1:Nat}{tpos:Pos}{a:Expr}{ta:TA}{p pos:Pos}(hg:Gl X "enumerate")(hm:X.mg "enumerate"=none)(ha:PA X [a] ta)(hK:X.K=K:=by rfl)(hs:starEach [a] X.env=[(false,eval a X.env)]:=by rfl):PI X (.Tuple es x1 tpos) (.Call (.Name "enumerate" p) [a] [] pos) (SV K ta):=by
 subst hK;intro Ac s σ H R I h;refine Call_ (Ja I hg hm Ti (PyProof.Rows.callWith_type1 (Bu (ha pos Ac s σ H _ I h) fun us s1 ⟨vs,H1,I1,r1,q1⟩=>?_) hs rfl));obtain⟨l,e,⟨xs,hq⟩,q⟩:=q1;subst e;cases r1 with
 | cons r rr =>
   cases rr;cases r;obtain⟨its,rv,pl,hz⟩:=I1.tuple hq;refine FJ (show s1.heap.IsTuple l its.toArray from pl) fun h' hen hit hsz hk=>?_;refine wpAny_pyIter_enum hen ⟨s1.heap.objs.size+1,[s1.heap.objs.size+1,s1.heap.objs.size],_,_,H1,rfl,I1.kept (t':=s1.toks) hk,dJ l _ _ (Nat.succ_ne_self _),⟨⟨_,hen⟩,hit⟩,fun b hb=>?_,q⟩
   have lb:s1.heap.objs.size<=b:=by
    rcases List.mem_cons.mp hb with rfl | hb
    . exact Nat.le_succ _
    . have z:b=s1.heap.objs.size:=by simpa using hb
      rw[z];exact Nat.le_refl _
   exact I1.fpOk lb (I1.hok.fresh lb)
section
variable{g:TG}{tc:TT}{te:TE}{D:Addr}{Q:Hp->Prop}{τ:St}{H:Hp}
theorem jI{K:W.Frag}{a:Addr}{xs:List V}{g:TG}{tb:TS}{D:Ends}{σ:St}{H:Hp}(Pv:Nat->St->Hp->Prop)(h0:Pv 0 σ H)(hl:∀i σ H,i<=xs.length->Pv i σ H->Dw K H a xs)
 (hs:∀i x σ H p,xs[i]?=some x->Pv i σ H->H p=none->g (.ref p) σ (upd H p (.tup [.int i,x])) fun σ2 H2=>tb { D with nx:=Pv (i+1),ct:=Pv (i+1),bk:=D.nx } σ2 H2) (hd:∀σ H,Pv xs.length σ H->D.nx σ H) :
 ∃W:Nat->Nat->St->Hp->Prop,(∃m,W 0 m σ H)/\∀i m σ H,W i m σ H →
   ((IteT K a).stop i H/\D.nx σ H)\/((IteT K a).go i H/\∃N:St->Hp->Prop,(∀σ' H',N σ' H'->∃m',m'<m/\W (i+1) m' σ' H')/\∀x H',(IteT K a).yld i H x H'->g x σ H' fun σ2 H2=>tb { D with nx:=N,ct:=N,bk:=D.nx } σ2 H2):=by
 refine⟨fun i m σ H=>m=xs.length-i/\i<=xs.length/\Pv i σ H,⟨xs.length,by simp,Nat.zero_le _,h0⟩,?_⟩;rintro i m σ H ⟨rfl,hi,pp⟩;have q:=hl i σ H hi pp;by_cases hlt:i<xs.length
 . refine .inr ⟨⟨xs,xs[i],q,by simp[hlt]⟩,Pv (i+1),fun σ' H' p'=>⟨xs.length-(i+1),by omega,rfl,hlt,p'⟩,fun x H' y=>?_⟩;obtain⟨p,v,hp,rfl,rfl,y⟩:=y;exact hs i v σ _ p (y xs q) pp hp
 . have e:i=xs.length:=by omega
   subst e;exact .inl ⟨⟨xs,q,Nat.le_refl _⟩,hd σ H pp⟩
end
end L2
namespace Hb
def Ko(fs:List Int)(f:Int):Nat->Int
 | 0=>0
 | i+1=>if fs.getD i 0=f then Ko fs f i+1-2*((i:Int)%2) else Ko fs f i
def C9(fs:List Int)(f:Int):Int:=Ko fs f fs.length
def jF(x e:Int):Int:=if x=e then 1 else 0
theorem PK(e:Int):C9 [] e=0:=rfl
theorem gA(x y e:Int):C9 [x,y] e=jF x e-jF y e:=by
 show(if y=e then(if x=e then(0:Int)+1-2*(((0:Nat):Int)%2) else 0)+1-2*(((1:Nat):Int)%2) else(if x=e then(0:Int)+1-2*(((0:Nat):Int)%2) else 0))=_;unfold jF;split<;>split<;>simp_all
theorem FZ(x y z e:Int):C9 [x,y,z] e=jF x e-jF y e+jF z e:=by
 show(if z=e then C9 [x,y] e+1-2*(((2:Nat):Int)%2) else C9 [x,y] e)=_;rw[gA];unfold jF;split<;>simp_all<;>omega
theorem pO{l:List Int}(h:l.length=2):∃a b,l=[a,b]:=by
 match l,h with
 | [a,b],_=>exact⟨a,b,rfl⟩
theorem mK{l:List Int}(h:l.length=3):∃a b c,l=[a,b,c]:=by
 match l,h with
 | [a,b,c],_=>exact⟨a,b,c,rfl⟩
theorem ZA{l:List Int}(h:l.length=4):∃a b c d,l=[a,b,c,d]:=by
 match l,h with
 | [a,b,c,d],_=>exact⟨a,b,c,d,rfl⟩
def sg(i:Nat):Int:=1-2*((i:Int)%2)
theorem UN{xs:LLInt}(hs:Ir xs){k:Nat}{q:List Int}(hq:xs[k]?=some q)(e:Int):A1 (fun i=>sg i*C9 (xs.getD (q.getD i 0).toNat []) e) q.length=0:=by
 have F:=hs k q hq
 have face:∀f∈q,∃p,xs.getD f.toNat []=p/\(xs.take k)[f.toNat]?=some p/\lev p+1=lev q/\(p.length=0\/p.length=2\/p.length=3\/p.length=4):=by
  intro f hf;obtain⟨p,hp,hl⟩:=F.bel f hf
  have hp2:xs[f.toNat]?=some p:=by
   rw[List.getElem?_take]at hp;split at hp
   . exact hp
   . cases hp
  exact⟨p,by rw[List.getD_eq_getElem?_getD,hp2];rfl,hp,hl,(hs _ _ hp2).cnt⟩
 rcases F.cnt with h | h | h | h
 . rw[h];rfl
 . obtain⟨a,b,rfl⟩:=pO h;obtain⟨A,ha,_,la,ca⟩:=face a (by simp);obtain⟨B,hb,_,lb,cb⟩:=face b (by simp);have za:A=[]:=by unfold lev at la;simp at la;apply List.eq_nil_of_length_eq_zero;omega
   have zb:B=[]:=by unfold lev at lb;simp at lb;apply List.eq_nil_of_length_eq_zero;omega
   subst za zb;show(0:Int)+sg 0*C9 (xs.getD a.toNat []) e+sg 1*C9 (xs.getD b.toNat []) e=0;rw[ha,hb,PK];simp
 . obtain⟨a,b,c,rfl⟩:=mK h;obtain⟨A,ha,ga,la,ca⟩:=face a (by simp);obtain⟨B,hb,gb,lb,cb⟩:=face b (by simp);obtain⟨C,hc,gc,lc,cc⟩:=face c (by simp);obtain⟨a0,a1,rfl⟩:=pO (l:=A) (by unfold lev at la;simp at la;omega);obtain⟨b0,b1,rfl⟩:=pO (l:=B) (by unfold lev at lb;simp at lb;omega);obtain⟨c0,c1,rfl⟩:=pO (l:=C) (by unfold lev at lc;simp at lc;omega);have G:=F.agr (by simp);have e1:=G 0 1 b a _ _ (by decide) rfl rfl gb ga;have e2:=G 0 2 c a _ _ (by decide) rfl rfl gc ga;have e3:=G 1 2 c b _ _ (by decide) rfl rfl gc gb;simp at e1 e2 e3;subst e1 e2 e3;show(0:Int)+sg 0*C9 (xs.getD a.toNat []) e+sg 1*C9 (xs.getD b.toNat []) e+sg 2*C9 (xs.getD c.toNat []) e=0;rw[ha,hb,hc,gA,gA,gA];simp[sg];omega
 . obtain⟨a,b,c,d,rfl⟩:=ZA h;obtain⟨A,ha,ga,la,ca⟩:=face a (by simp);obtain⟨B,hb,gb,lb,cb⟩:=face b (by simp);obtain⟨C,hc,gc,lc,cc⟩:=face c (by simp);obtain⟨D,hd,gd,ld,cd⟩:=face d (by simp);obtain⟨a0,a1,a2,rfl⟩:=mK (l:=A) (by unfold lev at la;simp at la;omega);obtain⟨b0,b1,b2,rfl⟩:=mK (l:=B) (by unfold lev at lb;simp at lb;omega);obtain⟨c0,c1,c2,rfl⟩:=mK (l:=C) (by unfold lev at lc;simp at lc;omega);obtain⟨d0,d1,d2,rfl⟩:=mK (l:=D) (by unfold lev at ld;simp at ld;omega);have G:=F.agr (by simp);have e1:=G 0 1 b a _ _ (by decide) rfl rfl gb ga;have e2:=G 0 2 c a _ _ (by decide) rfl rfl gc ga;have e3:=G 1 2 c b _ _ (by decide) rfl rfl gc gb;have e4:=G 0 3 d a _ _ (by decide) rfl rfl gd ga;have e5:=G 1 3 d b _ _ (by decide) rfl rfl gd gb;have e6:=G 2 3 d c _ _ (by decide) rfl rfl gd gc;simp at e1 e2 e3 e4 e5 e6;subst e1 e2 e3 e4 e5 e6;show(0:Int)+sg 0*C9 (xs.getD a.toNat []) e+sg 1*C9 (xs.getD b.toNat []) e+sg 2*C9 (xs.getD c.toNat []) e+sg 3*C9 (xs.getD d.toNat []) e=0;rw[ha,hb,hc,hd,FZ,FZ,FZ,FZ];simp[sg];omega
end Hb
namespace Hb
open PySem L2
def OR(n:Int)(i:Nat):Int:=if (i:Int)%2=0 then n else -n
def Ip(ms:Ms)(fs:List Int)(n:Int):Nat->Ms
 | 0=>ms
 | i+1=>Gk (Ip ms fs n i) (fs.getD i 0) (OR n i)
def bA(ms:Ms)(fs:List Int)(n:Int):Ms:=Ip ms fs n fs.length
theorem f7(ms:Ms)(fs:List Int)(n k:Int):∀i,Au (Ip ms fs n i) k=Au ms k+Ko fs k i*n
 | 0=>by simp[Ip,Ko]
 | i+1=>by
   show Au (Gk (Ip ms fs n i) (fs.getD i 0) (OR n i)) k=_;rw[gI,f7 ms fs n k i];show _=Au ms k+(if fs.getD i 0=k then Ko fs k i+1-2*((i:Int)%2) else Ko fs k i)*n;by_cases h:k=fs.getD i 0
   . rw[if_pos h,if_pos h.symm]
     have e:OR n i=(1-2*((i:Int)%2))*n:=by
      unfold OR;have:(i:Int)%2=0\/(i:Int)%2=1:=by omega
      rcases this with z | z
      . rw[if_pos z,z];simp
      . rw[if_neg (by omega),z];omega
     rw[e,show Ko fs k i+1-2*((i:Int)%2)=Ko fs k i+(1-2*((i:Int)%2)) by omega,Int.add_mul];omega
   . rw[if_neg h,if_neg (fun z=>h z.symm)]
theorem Wj{ms:Ms}(h:nd ms)(fs:List Int)(n:Int):∀i,nd (Ip ms fs n i)
 | 0=>h
 | i+1=>ME (Wj h fs n i) _ _
theorem c9(ms:Ms)(fs:List Int)(n:Int):∀i,(Ip ms fs n i).length<=ms.length+i
 | 0=>Nat.le_refl _
 | i+1=>by
   have h1:=c9 ms fs n i;have h2:=aD (Ip ms fs n i) (fs.getD i 0) (OR n i);show(Gk _ _ _).length<=_;omega
def Iq(b:Addr)(H H1:Hp):Prop:=∀c q,c≠b->H c=some q->H1 c=some q
section
variable{K:W.Frag}{H H1:Hp}{b:Addr}{m:List (Key × V)}
theorem SqL.x(s:Iq b H H1)(hb:H b=some (.dK m)){a:Addr}{xs:List V}(h:SqL K H a xs):SqL K H1 a xs:=by
 rcases h with(h|⟨o,h⟩) | h
 . exact .inl (.inl (s _ _ (fun z=>by rw[z,hb]at h;cases h) h))
 . exact .inl (.inr ⟨o,s _ _ (fun z=>by rw[z,hb]at h;cases h) h⟩)
 . exact .inr h
theorem Dw.x(s:Iq b H H1)(hb:H b=some (.dK m)){a:Addr}{xs:List V}(h:Dw K H a xs):Dw K H1 a xs:=by
 rcases h with(h|⟨o,h⟩) | h
 . exact .inl (.inl (s _ _ (fun z=>by rw[z,hb]at h;cases h) h))
 . exact .inl (.inr ⟨o,s _ _ (fun z=>by rw[z,hb]at h;cases h) h⟩)
 . exact .inr h
mutual
theorem Rep.x(s:Iq b H H1)(hb:H b=some (.dK m)){v:V}{d:L2.D}(h:Rep K H v d):Rep K H1 v d:=by
 cases d with
 | non=>exact h
 | bl b=>exact h
 | int i=>exact h
 | str x=>exact h
 | tup ds =>
   obtain⟨a,vs,e,q,r⟩:=h;exact⟨a,vs,e,Dw.x s hb q,Reps.x s hb r⟩
 | lst ds =>
   obtain⟨a,vs,e,q,r⟩:=h;exact⟨a,vs,e,SqL.x s hb q,Reps.x s hb r⟩
theorem Reps.x(s:Iq b H H1)(hb:H b=some (.dK m)){vs:List V}{ds:List L2.D}(h:Reps K H vs ds):Reps K H1 vs ds:=by
 cases ds with
 | nil=>exact h
 | cons d r =>
   obtain⟨v,q,e,h1,h2⟩:=h;exact⟨v,q,e,Rep.x s hb h1,Reps.x s hb h2⟩
end
end
section
variable(K:W.Frag)
def Kg:Sp:=fun vs H Q _=>∃(a:Addr) (v:V) (ms:Ms) (fs:List Int) (n:Int),vs=[.ref a,v,.int n]/\H a=some (.dK (cK ms))/\TI K H v fs/\ms.length+fs.length<=100000 ∧
 ∀H',Iq a H H'->H' a=some (.dK (cK (bA ms fs n)))->Q .non H'
end
end Hb
namespace L2
open PySem PySem.Spec PyProof.Rows
structure PEw(X:Cx)(e:Expr)(t:TE):Prop where
 h:PE X e t
theorem fW{X:Cx}{K:W.Frag}{sl:Expr}{es:List Expr}{k:Nat}{p q:Pos}{ta:TA}{UD:TE}(ha:WW X es ta)(hsl:PE X sl UD)(hpi:gT sl)(hK:X.K=K:=by rfl) :
 PEw X (.Subscript (.Tuple es k p) sl q) (UQ (rQ K) (uP ta) UD):=by
 subst hK;exact⟨A5 Be (By ha.h) hsl hpi⟩
end L2
namespace Hb
open PySem L2
def uO:L2.D->List Int
 | .tup ds=>ds.map kF
 | _=>[]
theorem MZ{xs:LLInt}{d:L2.D}(h:Cj xs d=true):d=tI (uO d):=by
 cases d with
 | tup ds =>
   rw[Cp]at h;simp only[Bool.and_eq_true]at h;have:=Qy h.1.2;show L2.D.tup ds=.tup (Cb (ds.map kF));rw[←this]
 | _=>simp[Cj]at h
theorem iX{n:Int}(h:n.natAbs<1024):n.natAbs.log2<1920:=by
 by_cases z:n.natAbs=0
 . rw[z];decide
 . exact Nat.lt_of_lt_of_le ((Nat.log2_lt (k:=10) z).mpr h) (by decide)
theorem TX(x:V)(r:List V):Uw (x::r) 0=some x:=Ft (j:=0) rfl
theorem GR(x y:V)(r:List V):Uw (x::y::r) 1=some y:=Ft (j:=1) rfl
theorem KR{x:Str}(h:x.length<=100:=by decide):x.length<=100000:=by omega
theorem bK{H H1:Hp}{e d C:Addr}{fs:List (Str × V)}(s:Same H H1)(he:H1 e=none)(hd:upd H1 e (Jw e C) d=none) :
 Same H (del (upd (upd (upd H1 e (Jw e C)) d (.xd fs)) e (madeE e C d)) e)/\del (upd (upd (upd H1 e (Jw e C)) d (.xd fs)) e (madeE e C d)) e d=some (.xd fs):=by
 have uI:d≠e:=fun z=>by rw[z,Ad]at hd;cases hd
 have hd1:H1 d=none:=by rw[Ae uI]at hd;exact hd
 refine⟨fun b u q=>?_,by rw[Xg uI,Ae uI,Ad]⟩;have q1:=s b u q;rw[Xg (Ap q1 he),Ae (Ap q1 he),Ae (Ap q1 hd1),Ae (Ap q1 he)];exact q1
section
variable(K:W.Frag)
def Fz(_K:W.Frag)(C:Addr):Sp:=fun vs H Q _=>∃(e:Addr) (n:Int),vs=[.ref e,.int n]/\H e=some (Jw e C)/\n.natAbs.log2<1920/\∀d,H d=none->Q .non (upd (upd H d (.xd [("place",.int n)])) e (madeE e C d))
end
end Hb
namespace Hb
def SS(n:Int):Bool:=(List.range (n-2).toNat).all fun k=>decide (¬n%(2+(k:Int))=0)
structure D8(p:Int):Prop where
 two:2<=p
 free:∀k:Int,2<=k->k<p->¬p%k=0
theorem JD{n:Int}(h2:2<=n)(h:SS n=true):D8 n:=by
 refine⟨h2,fun k k2 kn=>?_⟩;have h':=List.all_eq_true.mp h (k-2).toNat (List.mem_range.mpr (by omega));have e:(2:Int)+((k-2).toNat:Int)=k:=by omega
 rw[e]at h';simpa using h'
theorem D8.div{p a:Int}(h:D8 p)(ha:0<a)(hd:a∣p):a=1\/a=p:=by
 have h2:=h.two;have hle:a<=p:=Int.le_of_dvd (by omega) hd;by_cases h1:a=1
 . exact .inl h1
 . by_cases hp:a=p
   . exact .inr hp
   . exact absurd (Int.emod_eq_zero_of_dvd hd) (h.free a (by omega) (by omega))
structure Eu(n p a x b u:Int):Prop where
 ha:p∣a-x*n
 hb:p∣b-u*n
 dv:∀d:Int,d∣a->d∣b->d∣n/\d∣p
theorem Eu.start(n p:Int):Eu n p n 1 p 0:=⟨by simp,by simp,fun d h1 h2=>⟨h1,h2⟩⟩
theorem Eu.step{n p a x b u:Int}(h:Eu n p a x b u)(q:Int):Eu n p b u (a-q*b) (x-q*u):=by
 refine⟨h.hb,?_,fun d h1 h2=>?_⟩
 . have e:a-q*b-(x-q*u)*n=(a-x*n)-q*(b-u*n):=by
    rw[Int.sub_mul,Int.mul_sub,Int.mul_assoc];omega
   rw[e];exact Int.dvd_sub h.ha (Int.dvd_mul_of_dvd_right h.hb)
 . have e:a=(a-q*b)+q*b:=by omega
   refine h.dv d ?_ h1;rw[e];exact Int.dvd_add h2 (Int.dvd_mul_of_dvd_right h1)
theorem Eu.last{n p a x u:Int}(h:Eu n p a x 0 u)(hp:D8 p)(hn:¬p∣n)(ha:0<a):a=1:=by
 obtain⟨h1,h2⟩:=h.dv a (Int.dvd_refl a) (Int.dvd_zero a);rcases hp.div ha h2 with e | e
 . exact e
 . subst e;exact absurd h1 hn
theorem LQ{n p x:Int}(h2:2<=p)(h:p∣1-x*n):0<=x%p/\x%p<p/\p∣1-(x%p)*n:=by
 refine⟨Int.emod_nonneg _ (by omega),Int.emod_lt_of_pos _ (by omega),?_⟩
 have e:1-(x%p)*n=(1-x*n)+p*((x / p)*n):=by
  have:x=p*(x / p)+x%p:=(Int.mul_ediv_add_emod x p).symm
  have e2:x*n=p*(x / p)*n+x%p*n:=by
   rw[←Int.add_mul,←this]
  rw[e2,Int.mul_assoc];omega
 rw[e];exact Int.dvd_add h (Int.dvd_mul_right _ _)
def prs(m:Nat):List Int:=((List.range m).map fun(i:Nat)=>2+(i:Int)).filter SS
theorem bL(m:Nat):prs (m+1)=if SS (2+(m:Int))=true then prs m++[2+(m:Int)] else prs m:=by
 unfold prs;rw[List.range_succ,List.map_append,List.filter_append];by_cases h:SS (2+(m:Int))=true
 . rw[if_pos h];simp[List.filter,h]
 . rw[if_neg h];simp[List.filter,h]
theorem OV(m:Nat):(prs m).length<=m:=by
 unfold prs;refine Nat.le_trans (List.length_filter_le ..) ?_;simp
theorem RT:(prs 96).length=25:=by decide +kernel
theorem oV{m:Nat}{p:Int}(h:p∈prs m):D8 p/\p<2+(m:Int):=by
 unfold prs at h;rw[List.mem_filter]at h;obtain⟨h1,h2⟩:=h;obtain⟨i,hi,rfl⟩:=List.mem_map.mp h1;have:=List.mem_range.mp hi;exact⟨JD (by omega) h2,by omega⟩
def dvs(n:Int)(m:Nat):List Int:=((List.range m).map fun(i:Nat)=>2+(i:Int)).filter fun k=>decide (n%k=0)
theorem CF(n:Int)(m:Nat):dvs n (m+1)=if n%(2+(m:Int))=0 then dvs n m++[2+(m:Int)] else dvs n m:=by
 unfold dvs;rw[List.range_succ,List.map_append,List.filter_append];by_cases h:n%(2+(m:Int))=0
 . rw[if_pos h];simp[List.filter,h]
 . rw[if_neg h];simp[List.filter,h]
theorem QC(n:Int)(m:Nat):(dvs n m).length<=m:=by
 unfold dvs;refine Nat.le_trans (List.length_filter_le ..) ?_;simp
theorem nE(n:Int):((dvs n (n-2).toNat).length=0)↔SS n=true:=by
 unfold dvs SS;rw[List.length_eq_zero_iff,List.filter_eq_nil_iff,List.all_eq_true];constructor
 . intro h k hk;have:=h (2+(k:Int)) (List.mem_map.mpr ⟨k,hk,rfl⟩);simpa using this
 . intro h k hk;obtain⟨i,hi,rfl⟩:=List.mem_map.mp hk;simpa using h i hi
end Hb
namespace L2
open PySem PySem.Spec PyProof.Rows
def yR:R2:=fun x y H Q=>∃a kvs k,y=.ref a/\H a=some (.dK kvs)/\x=kV k/\Q (.bl (Ia kvs k).isSome) H
theorem dY{X:Cx}(hu:X.A.units+1<cLine):OpR X (compareOp .In) yR:=by
 intro Ac s σ H x y v u Q I rx ry h;obtain⟨a,kvs,k,rfl,ha,rfl,q⟩:=h;obtain rfl:u=Value.ref a:=ry;exact Ac3 hu I (.k ha) rx fun s3 I3=>⟨.bl (Ia kvs k).isSome,H,I3,rfl,q⟩
end L2
namespace Hb
open PySem L2
theorem Rz{xs:LLInt}(h:Ir xs):X5 xs:=fun x hx=>by
 obtain⟨k,hk⟩:=List.getElem?_of_mem hx;exact(h k x hk).cnt
theorem DO{xs:LLInt}{q:List Int}(h:Ir xs)(hf:OE xs q):Ir (xs++[q]):=fun k p hk=>by
 by_cases hlt:k<xs.length
 . rw[List.getElem?_append_left hlt]at hk;rw[List.take_append_of_le_length (by omega)];exact h k p hk
 . have hk':k<(xs++[q]).length:=(List.getElem?_eq_some_iff.mp hk).1;have e:k=xs.length:=by simp at hk';omega
   subst e;simp at hk;subst hk;rw[List.take_append_of_le_length (Nat.le_refl _),List.take_length];exact hf
theorem dP{xs:LLInt}{q:List Int}(h:Ir (xs++[q])):Ir xs:=fun k p hk=>by
 have hlt:k<xs.length:=(List.getElem?_eq_some_iff.mp hk).1;have:=h k p (by rw[List.getElem?_append_left hlt];exact hk);rw[List.take_append_of_le_length (by omega)]at this;exact this
theorem aN{xs:LLInt}{f:Int}(h0:0<=f)(h1:f<(xs.length:Int)):xs[f.toNat]?=some (xs.getD f.toNat []):=by
 have:f.toNat<xs.length:=by omega
 rw[List.getD_eq_getElem?_getD,List.getElem?_eq_getElem this];rfl
theorem eZ{xs:LLInt}{q:List Int}(h:Cj xs (tI q)=true):∀f∈q,0<=f/\f<(xs.length:Int)/\Bq (xs.getD f.toNat []).length=Bq q.length-1:=by
 intro f hf;have h':Cj xs (.tup (Cb q))=true:=h;rw[Cp]at h';simp only[Bool.and_eq_true]at h';have h2:=List.all_eq_true.mp h'.1.2 (.int f) (List.mem_map.mpr ⟨f,hf,rfl⟩);have h3:(decide (0<=f)&&decide (f<(xs.length:Int))&&decide (Bq (xs.getD f.toNat []).length=Bq (Cb q).length-1))=true:=h2;simp only[Bool.and_eq_true,decide_eq_true_eq]at h3;have hl:(Cb q).length=q.length:=by unfold Cb;rw[List.length_map]
 rw[hl]at h3;exact⟨h3.1.1,h3.1.2,h3.2⟩
theorem nB{xs:LLInt}{q:List Int}(h:Cj xs (tI q)=true):q.length=0\/q.length=2\/q.length=3\/q.length=4:=by
 have h':Cj xs (.tup (Cb q))=true:=h;rw[Cp]at h';simp only[Bool.and_eq_true]at h';have h1:=h'.1.1;have hl:(Cb q).length=q.length:=by unfold Cb;rw[List.length_map]
 rw[hl]at h1;unfold Ol at h1;simp only[Bool.or_eq_true,beq_iff_eq]at h1;omega
theorem aA(q:List Int):(Cb q).map kF=q:=by
 unfold Cb;rw[List.map_map];exact(List.map_congr_left fun _ _=>rfl).trans (List.map_id q)
theorem qA{xs:LLInt}{q:List Int}(hc:X5 xs)(h:Cj xs (tI q)=true):OE xs q:=by
 have hfs:=eZ h;have hcn:=nB h
 have JG:∀f∈q,(xs.getD f.toNat []).length-1+1=q.length-1:=fun f hf=>by
  obtain⟨h0,h1,h2⟩:=hfs f hf;have hq:1<=q.length:=List.length_pos_of_mem hf;rw[Cs,Cs]at h2;omega
 refine⟨hcn,fun f hf=>(hfs f hf).1,fun f hf=>?_,fun h3 i j f g r s hij hj hi hr hs=>?_⟩
 . obtain⟨h0,h1,_⟩:=hfs f hf;exact⟨_,aN h0 h1,JG f hf⟩
 . have hf:=List.mem_of_getElem? hj;have hg:=List.mem_of_getElem? hi;obtain⟨f0,f1,_⟩:=hfs f hf;obtain⟨g0,g1,_⟩:=hfs g hg;have er:r=xs.getD f.toNat []:=by rw[aN f0 f1]at hr;exact(Option.some.inj hr).symm
   have es:s=xs.getD g.toNat []:=by rw[aN g0 g1]at hs;exact(Option.some.inj hs).symm
   have h':Cj xs (.tup (Cb q))=true:=h;rw[Cp]at h';simp only[Bool.and_eq_true,Bool.or_eq_true,decide_eq_true_eq,aA]at h';have hl:(Cb q).length=q.length:=by unfold Cb;rw[List.length_map]
   have ha:E3 xs q=true:=by
    rcases h'.2 with z | z
    . rw[hl,Cs]at z;omega
    . exact z
   have hjl:j<q.length:=(List.getElem?_eq_some_iff.mp hj).1;have h4:=List.all_eq_true.mp (List.all_eq_true.mp ha j (List.mem_range.mpr hjl)) i (List.mem_range.mpr hij);unfold Ob at h4;have hjd:q.getD j 0=f:=by rw[List.getD_eq_getElem?_getD,hj];rfl
   have hid:q.getD i 0=g:=by rw[List.getD_eq_getElem?_getD,hi];rfl
   rw[hjd,hid,←er,←es,decide_eq_true_eq]at h4;have l1:=JG f hf;have l2:=JG g hg;rw[←er]at l1;rw[←es]at l2;have hr':r.length=0\/r.length=2\/r.length=3\/r.length=4:=by rw[er];exact hc.at f0 f1
   have hs':s.length=0\/s.length=2\/s.length=3\/s.length=4:=by rw[es];exact hc.at g0 g1
   have i1:i<r.length:=by omega
   have j1:j-1<s.length:=by omega
   rw[List.getElem?_eq_getElem i1,List.getElem?_eq_getElem j1];rw[List.getD_eq_getElem?_getD,List.getD_eq_getElem?_getD,List.getElem?_eq_getElem i1,List.getElem?_eq_getElem j1]at h4;exact congrArg some h4
def E7(xs:LLInt):DE->Bool
 | .d d=>Cj xs d
 | .nul=>false
theorem jJ{xs:LLInt}{e:DE}(h:E7 xs e=true):∃q,e=.d (tI q)/\Cj xs (tI q)=true:=by
 cases e with
 | nul=>cases h
 | d d =>
   have h':Cj xs d=true:=h;have e:=MZ h';exact⟨uO d,by rw[←e],by rw[←e];exact h'⟩
structure E4(p:Int)(xs:LLInt)(es ss:List Ms)(bs:Ms):Prop where
 shp:Ir xs
 le:es.length=xs.length
 ls:ss.length=xs.length
 n40:xs.length<=40
 eok:∀(i:Nat) m,es[i]?=some m->Q9 p m/\∀x∈A3 m,0<=x/\x<(i:Int)/\((xs.getD x.toNat []).length-1)+1=(xs.getD i []).length-1
 sok:∀(i:Nat) m,ss[i]?=some m->Q9 p m/\∀x∈A3 m,0<=x/\x<=(i:Int)
 bnd:nd bs
 bls:∀b e,lookI bs b=some e↔∃(i:Nat) (m:Ms),e=(i:Int)/\es[i]?=some m/\Nk m b
theorem E4.nil(p:Int):E4 p [] [] [] []:=⟨fun k q h=>by simp at h,rfl,rfl,by decide,fun i m h=>by simp at h,fun i m h=>by simp at h,List.nodup_nil,fun b e=>⟨fun h=>by simp[lookI]at h,fun⟨i,m,_,h,_⟩=>by simp at h⟩⟩
theorem Nk.no{b:Int}(h:Nk [] b):False:=by have:=h.mem;simp[A3]at this
theorem B8{xs:LLInt}{q:List Int}{i:Nat}(h:i<xs.length):(xs++[q]).getD i []=xs.getD i []:=by
 rw[List.getD_eq_getElem?_getD,List.getD_eq_getElem?_getD,List.getElem?_append_left h]
theorem Qt{xs:LLInt}{q:List Int}:(xs++[q]).getD xs.length []=q:=by
 rw[List.getD_eq_getElem?_getD,List.getElem?_append_right (Nat.le_refl _)];simp
theorem Cv{α:Type}{l:List α}{x y:α}{i:Nat}(h:(l++[x])[i]?=some y):(i<l.length/\l[i]?=some y)\/(i=l.length/\y=x):=by
 by_cases hlt:i<l.length
 . rw[List.getElem?_append_left hlt]at h;exact .inl ⟨hlt,h⟩
 . have hk':i<(l++[x]).length:=(List.getElem?_eq_some_iff.mp h).1;have e:i=l.length:=by simp at hk';omega
   subst e;simp at h;exact .inr ⟨rfl,h.symm⟩
structure wY(p:Int)(xs:LLInt)(bs:Ms)(q:List Int)(ms me:Ms):Prop where
 h1:Q9 p ms
 k1:∀x∈A3 ms,0<=x/\x<=(xs.length:Int)
 h2:Q9 p me
 k2:∀x∈A3 me,0<=x/\x<(xs.length:Int)/\(xs.getD x.toNat []).length-1+1=q.length-1
 h3:∀b,Nk me b->lookI bs b=none
theorem E4.grow{p:Int}{xs:LLInt}{es ss:List Ms}{bs:Ms}{q:List Int}{ms me bs':Ms}(h:E4 p xs es ss bs)(hf:OE xs q)(hn:xs.length<40)(f:wY p xs bs q ms me)
 (hb:(me=[]/\bs'=bs)\/∃b,Nk me b/\bs'=O9 bs b (xs.length:Int)):E4 p (xs++[q]) (es++[me]) (ss++[ms]) bs':=by
 refine⟨DO h.shp hf,by simp[h.le],by simp[h.ls],by simp;omega,fun i m hi=>?_,fun i m hi=>?_,?_,fun b e=>?_⟩
 . rcases Cv hi with⟨hl,hi⟩|⟨rfl,rfl⟩
   . rw[h.le]at hl;obtain⟨a1,a2⟩:=h.eok i m hi;refine⟨a1,fun x hx=>?_⟩;obtain⟨b1,b2,b3⟩:=a2 x hx;refine⟨b1,b2,?_⟩;rw[B8 (by omega),B8 hl];exact b3
   . refine⟨f.h2,fun x hx=>?_⟩;obtain⟨b1,b2,b3⟩:=f.k2 x hx;rw[h.le];refine⟨b1,b2,?_⟩;rw[B8 (by omega),Qt];exact b3
 . rcases Cv hi with⟨hl,hi⟩|⟨rfl,rfl⟩
   . exact h.sok i m hi
   . rw[h.ls];exact⟨f.h1,f.k1⟩
 . rcases hb with⟨_,rfl⟩|⟨b,_,rfl⟩
   . exact h.bnd
   . exact EL h.bnd _ _
 . rcases hb with⟨rfl,rfl⟩|⟨b0,hb0,rfl⟩
   . rw[h.bls];constructor
     . rintro ⟨i,m,e1,e2,e3⟩;exact⟨i,m,e1,by rw[List.getElem?_append_left (List.getElem?_eq_some_iff.mp e2).1];exact e2,e3⟩
     . rintro ⟨i,m,e1,e2,e3⟩;rcases Cv e2 with⟨_,e2⟩|⟨_,rfl⟩
       . exact⟨i,m,e1,e2,e3⟩
       . exact(Nk.no e3).elim
   . rw[Ny];by_cases pX:b=b0
     . subst pX;rw[if_pos rfl];constructor
       . intro z;cases z;exact⟨es.length,me,by rw[h.le],by simp,hb0⟩
       . rintro ⟨i,m,e1,e2,e3⟩;rcases Cv e2 with⟨_,e2⟩|⟨e4,rfl⟩
         . have:=(h.bls b (i:Int)).mpr ⟨i,m,rfl,e2,e3⟩;rw[f.h3 b hb0]at this;cases this
         . rw[e1,e4,h.le]
     . rw[if_neg pX,h.bls];constructor
       . rintro ⟨i,m,e1,e2,e3⟩;exact⟨i,m,e1,by rw[List.getElem?_append_left (List.getElem?_eq_some_iff.mp e2).1];exact e2,e3⟩
       . rintro ⟨i,m,e1,e2,e3⟩;rcases Cv e2 with⟨_,e2⟩|⟨_,rfl⟩
         . exact⟨i,m,e1,e2,e3⟩
         . exact absurd (Nk.one e3 hb0) pX
theorem P7{α:Type}{l:List α}{n:Nat}(h:l.length=n+1):∃l0 x,l=l0++[x]/\l0.length=n:=by
 rcases List.eq_nil_or_concat l with rfl|⟨l0,x,e⟩
 . simp at h
 . rw[List.concat_eq_append]at e;subst e;exact⟨l0,x,rfl,by simpa using h⟩
theorem E4.back{p:Int}{xs:LLInt}{q:List Int}{es ss:List Ms}{me ms bs bs':Ms}(h:E4 p (xs++[q]) (es++[me]) (ss++[ms]) bs)(hb:(me=[]/\bs'=bs)\/∃b,Nk me b/\bs'=J1 bs b):E4 p xs es ss bs':=by
 have le:=h.le;have ls:=h.ls;have n40:=h.n40;simp at le ls n40;have low:∀{i:Nat}{m:Ms},es[i]?=some m->(es++[me])[i]?=some m:=fun {i m} e=>by rw[List.getElem?_append_left (List.getElem?_eq_some_iff.mp e).1];exact e
 have lows:∀{i:Nat}{m:Ms},ss[i]?=some m->(ss++[ms])[i]?=some m:=fun {i m} e=>by rw[List.getElem?_append_left (List.getElem?_eq_some_iff.mp e).1];exact e
 refine⟨dP h.shp,le,ls,by omega,fun i m hi=>?_,fun i m hi=>h.sok i m (lows hi),?_,fun b e=>?_⟩
 . have hl:i<xs.length:=by rw[←le];exact(List.getElem?_eq_some_iff.mp hi).1
   obtain⟨a1,a2⟩:=h.eok i m (low hi);refine⟨a1,fun x hx=>?_⟩;obtain⟨b1,b2,b3⟩:=a2 x hx;rw[B8 (by omega),B8 hl]at b3;exact⟨b1,b2,b3⟩
 . rcases hb with⟨_,rfl⟩|⟨b,_,rfl⟩
   . exact h.bnd
   . exact gC h.bnd _
 . rcases hb with⟨rfl,rfl⟩|⟨b0,hb0,rfl⟩
   . rw[h.bls];constructor
     . rintro ⟨i,m,e1,e2,e3⟩;rcases Cv e2 with⟨_,e2⟩|⟨_,rfl⟩
       . exact⟨i,m,e1,e2,e3⟩
       . exact(Nk.no e3).elim
     . rintro ⟨i,m,e1,e2,e3⟩;exact⟨i,m,e1,low e2,e3⟩
   . have vZ:lookI bs b0=some (es.length:Int):=(h.bls b0 _).mpr ⟨es.length,me,rfl,by simp,hb0⟩;rw[Wm];by_cases pX:b=b0
     . subst pX;rw[if_pos rfl];constructor
       . intro z;cases z
       . rintro ⟨i,m,e1,e2,e3⟩;have:=(h.bls b (i:Int)).mpr ⟨i,m,rfl,low e2,e3⟩;rw[vZ]at this;have hl:=(List.getElem?_eq_some_iff.mp e2).1;have:(es.length:Int)=(i:Int):=Option.some.inj this;omega
     . rw[if_neg pX,h.bls];constructor
       . rintro ⟨i,m,e1,e2,e3⟩;rcases Cv e2 with⟨_,e2⟩|⟨_,rfl⟩
         . exact⟨i,m,e1,e2,e3⟩
         . exact absurd (Nk.one e3 hb0) pX
       . rintro ⟨i,m,e1,e2,e3⟩;exact⟨i,m,e1,low e2,e3⟩
theorem E1{ms:Ms}(h:nd ms)(hk:∀x∈A3 ms,0<=x/\x<=40):ms.length<=41:=by
 have:=aC (A3 ms) ((List.range 41).map fun(i:Nat)=>(i:Int)) h fun x hx=>by
  obtain⟨h1,h2⟩:=hk x hx;exact List.mem_map.mpr ⟨x.toNat,List.mem_range.mpr (by omega),by omega⟩
 unfold A3 at this;simpa using this
theorem E4.blen{p:Int}{xs:LLInt}{es ss:List Ms}{bs:Ms}(h:E4 p xs es ss bs):bs.length<=41:=by
 refine E1 h.bnd fun x hx=>?_;obtain⟨r,hr,rfl⟩:=List.mem_map.mp hx;obtain⟨i,m,_,e2,e3⟩:=(h.bls r.1 r.2).mp (Jx h.bnd hr);have hl:i<xs.length:=by rw[←h.le];exact(List.getElem?_eq_some_iff.mp e2).1
 have:=(h.eok i m e2).2 _ e3.mem;have:=h.n40;omega
theorem KO{ms:Ms}(h:ms≠[]):∃b,Nk ms b:=by
 induction ms with
 | nil=>exact absurd rfl h
 | cons q ms ih =>
   by_cases hm:ms=[]
   . subst hm;exact⟨q.1,by simp[A3],fun x hx=>by simp[A3]at hx;omega⟩
   . obtain⟨b,hb⟩:=ih hm;by_cases hq:q.1<=b
     . refine⟨b,List.mem_cons_of_mem _ hb.mem,fun x hx=>?_⟩;rcases List.mem_cons.mp hx with z | z
       . have:x=q.1:=z;omega
       . exact hb.le x z
     . refine⟨q.1,List.mem_cons_self,fun x hx=>?_⟩;rcases List.mem_cons.mp hx with z | z
       . have:x=q.1:=z;omega
       . have:=hb.le x z;omega
theorem g9{p n:Int}{es fs:Ms}(hp:0<p)(he:Q9 p es)(hf:Q9 p fs):Q9 p (modI p (C6 es (Bg n fs)))/\∀x∈A3 (modI p (C6 es (Bg n fs))),x∈A3 es\/x∈A3 fs:=by
 have OG:nd (Bg n fs):=by
  unfold Bg;split
  . exact List.nodup_nil
  . exact Kq hf.nd _
 obtain⟨n1,n2,n3,n4⟩:=Kn (Bg n fs) es he.nd he.nz OG;have ok:=z9 n1 hp;refine⟨ok,fun x hx=>?_⟩;have KH:=(Qs ok.nz).mpr hx;rw[Il n1,n4,Jz]at KH;by_cases h1:x∈A3 es
 . exact .inl h1
 by_cases h2:x∈A3 fs
 . exact .inr h2
 . rw[Ci h1,Ci h2]at KH;simp at KH
theorem pQ{ms:Ms}{k n x:Int}(h:x∈A3 (Gk ms k n)):x∈A3 ms\/x=k:=by
 unfold Gk at h;split at h
 . obtain⟨r,hr,rfl⟩:=List.mem_map.mp h;exact .inl (List.mem_map.mpr ⟨r,(List.mem_filter.mp hr).1,rfl⟩)
 . obtain⟨r,hr,rfl⟩:=List.mem_map.mp h;rcases gD hr with z | z
   . exact .inl (List.mem_map.mpr ⟨r,z,rfl⟩)
   . rw[z];exact .inr rfl
theorem d4{fs:List Int}{n x:Int}:∀{i:Nat},i<=fs.length->x∈A3 (Ip [] fs n i)->x∈fs
 | 0,_,h=>by simp[Ip,A3]at h
 | i+1,hi,h=>by
   rcases pQ (show x∈A3 (Gk (Ip [] fs n i) (fs.getD i 0) (OR n i)) from h) with z | z
   . exact d4 (by omega) z
   . rw[z,List.getD_eq_getElem?_getD,List.getElem?_eq_getElem (by omega)];exact List.getElem_mem _
theorem Nk.look{p:Int}{ms:Ms}{b:Int}(h:Q9 p ms)(t:Nk ms b):lookI ms b=some (Au ms b)/\0<Au ms b/\Au ms b<p:=by
 obtain⟨r,hr,rfl⟩:=List.mem_map.mp t.mem;have e:=Jx h.nd hr;have e2:Au ms r.1=r.2:=by unfold Au;rw[e];rfl
 rw[e2];exact⟨e,h.bd r hr⟩
theorem sI{p v:Int}(h0:0<v)(h1:v<p):¬p∣v:=fun z=>by have:=Int.le_of_dvd h0 z;omega
structure Hx(H:Hp)(l en:Addr)(ms:List Ms):Prop where
 ex:∃ds:List Addr,H l=some (.lst (ds.map V.ref))/\ds.length=ms.length/\∀(i:Nat) d m,ds[i]?=some d->ms[i]?=some m->H d=some (.dK (cK m))/\d≠en
structure Bt(K:W.Frag)(CG:Addr)(H:Hp)(g pc sh ed en:Addr)(p:Int)(xs:LLInt)(es ss:List Ms)(bs:Ms):Prop where
 ob:∃dx fs,H g=some (.ins CG dx fs)/\fs.lookup ("prime":Str)=some (.int p)/\fs.lookup ("pieces":Str)=some (.ref pc)/\fs.lookup ("sheets":Str)=some (.ref sh)/\fs.lookup ("edges":Str)=some (.ref ed)/\fs.lookup ("enders":Str)=some (.ref en) ∧
  (fs.lookup ("grow":Str)=none/\fs.lookup ("settled":Str)=none/\fs.lookup ("take_back":Str)=none/\fs.lookup ("shape":Str)=none/\fs.lookup ("paper":Str)=none/\fs.lookup ("pairs":Str)=none/\fs.lookup ("alive":Str)=none)
 pcs:∃us,H pc=some (.lst us)/\Reps K H us (xs.map tI)
 eds:Hx H ed en es
 shs:Hx H sh en ss
 ens:H en=some (.dK (cK bs))
 ne:pc≠sh/\pc≠ed/\sh≠ed
 gw:E4 p xs es ss bs
 pr:D8 p/\p<98
def W4(pc sh ed en:Addr):Addr->Prop:=fun a=>a=pc\/a=sh\/a=ed\/a=en
def Hz(pc sh ed en:Addr)(H H':Hp):Prop:=∀c o,¬W4 pc sh ed en c->H c=some o->H' c=some o
theorem Hz.of{pc sh ed en:Addr}{H H':Hp}(s:Same H H'):Hz pc sh ed en H H':=fun c o _ e=>s c o e
theorem Hz.trans{pc sh ed en:Addr}{H H1 H2:Hp}(a:Hz pc sh ed en H H1)(b:Hz pc sh ed en H1 H2):Hz pc sh ed en H H2:=fun c o n e=>b c o n (a c o n e)
theorem Hz.up{pc sh ed en c:Addr}{H:Hp}{o:HO}(h:W4 pc sh ed en c):Hz pc sh ed en H (upd H c o):=fun d u n e=>by
 have hn:d≠c:=fun z=>by subst z;exact n h
 rw[Ae hn];exact e
def Mut(H:Hp)(c:Addr):Prop:=(∃us,H c=some (.lst us))\/∃kvs,H c=some (.dK kvs)
theorem Mut.there{H:Hp}{c:Addr}(h:Mut H c):H c≠none:=by
 rcases h with⟨_,h⟩|⟨_,h⟩<;>(rw[h];intro z;cases z)
theorem Mut.same{H H':Hp}{c:Addr}(s:Same H H')(h:Mut H c):Mut H' c:=by
 rcases h with⟨_,h⟩|⟨_,h⟩
 . exact .inl ⟨_,s _ _ h⟩
 . exact .inr ⟨_,s _ _ h⟩
section
variable{K:W.Frag}{CG:Addr}{H H':Hp}{g pc sh ed en:Addr}{p:Int}{xs:LLInt}{es ss:List Ms}{bs:Ms}
theorem Hx.get{l:Addr}{ms:List Ms}(x:Hx H l en ms){i:Nat}{m:Ms}(h:ms[i]?=some m):∃(ds:List Addr) (d:Addr),H l=some (.lst (ds.map V.ref))/\ds[i]?=some d/\H d=some (.dK (cK m))/\d≠en:=by
 obtain⟨ds,h1,h2,h3⟩:=x.ex;have hi:i<ds.length:=by rw[h2];exact(List.getElem?_eq_some_iff.mp h).1
 obtain⟨h4,h5⟩:=h3 i ds[i] m (List.getElem?_eq_getElem hi) h;exact⟨ds,ds[i],h1,List.getElem?_eq_getElem hi,h4,h5⟩
theorem Hx.same{l:Addr}{ms:List Ms}(x:Hx H l en ms)(s:Same H H'):Hx H' l en ms:=by
 obtain⟨ds,h1,h2,h3⟩:=x.ex;exact⟨ds,s _ _ h1,h2,fun i d m e1 e2=>⟨s _ _ (h3 i d m e1 e2).1,(h3 i d m e1 e2).2⟩⟩
theorem Bt.same(x:Bt K CG H g pc sh ed en p xs es ss bs)(s:Same H H'):Bt K CG H' g pc sh ed en p xs es ss bs:=by
 obtain⟨dx,fs,h1,h2⟩:=x.ob;obtain⟨us,h3,h4⟩:=x.pcs;exact⟨⟨dx,fs,s _ _ h1,h2⟩,⟨us,s _ _ h3,Reps.same s h4⟩,x.eds.same s,x.shs.same s,s _ _ x.ens,x.ne,x.gw,x.pr⟩
theorem Bt.mut(x:Bt K CG H g pc sh ed en p xs es ss bs):∀c,W4 pc sh ed en c->Mut H c:=by
 rintro c (rfl | rfl | rfl | rfl)
 . obtain⟨us,h,_⟩:=x.pcs;exact .inl ⟨_,h⟩
 . obtain⟨ds,h,_⟩:=x.shs.ex;exact .inl ⟨_,h⟩
 . obtain⟨ds,h,_⟩:=x.eds.ex;exact .inl ⟨_,h⟩
 . exact .inr ⟨_,x.ens⟩
theorem Hz.t(x:Bt K CG H g pc sh ed en p xs es ss bs)(fr:Hz pc sh ed en H H'):E8 H H':=by
 refine⟨fun b us e=>fr b _ (fun w=>?_) e,fun b o u e=>fr b _ (fun w=>?_) e⟩
 . rcases x.mut b w with⟨_,z⟩|⟨_,z⟩<;>(rw[z]at e;cases e)
 . rcases x.mut b w with⟨_,z⟩|⟨_,z⟩<;>(rw[z]at e;cases e)
theorem Bt.other(x:Bt K CG H g pc sh ed en p xs es ss bs){hd:Addr}{us:List V}{o:HO}(h:H hd=some (.lst us))(n1:hd≠pc)(n2:hd≠sh)(n3:hd≠ed):Bt K CG (upd H hd o) g pc sh ed en p xs es ss bs:=by
 obtain⟨dx,fs,h1,h2⟩:=x.ob;obtain⟨vs,h3,h4⟩:=x.pcs;obtain⟨ds,a1,a2,a3⟩:=x.eds.ex;obtain⟨cs,b1,b2,b3⟩:=x.shs.ex;have nl:∀{c:Addr}{o':HO},H c=some o'->(∀us,o'≠.lst us)->c≠hd:=fun {c o'} e n z=>by rw[z,h]at e;cases e;exact n _ rfl
 refine⟨⟨dx,fs,by rw[Ae (nl h1 (fun _ z=>by cases z))];exact h1,h2⟩,⟨vs,by rw[Ae n1.symm];exact h3,Reps.t (E8.lst h) (Fw _) h4⟩,⟨ds,by rw[Ae n3.symm];exact a1,a2,fun i d m e1 e2=>?_⟩,⟨cs,by rw[Ae n2.symm];exact b1,b2,fun i d m e1 e2=>?_⟩,by rw[Ae (nl x.ens (fun _ z=>by cases z))];exact x.ens,x.ne,x.gw,x.pr⟩
 . obtain⟨c1,c2⟩:=a3 i d m e1 e2;exact⟨by rw[Ae (nl c1 (fun _ z=>by cases z))];exact c1,c2⟩
 . obtain⟨c1,c2⟩:=b3 i d m e1 e2;exact⟨by rw[Ae (nl c1 (fun _ z=>by cases z))];exact c1,c2⟩
theorem Bt.put(x:Bt K CG H g pc sh ed en p xs es ss bs){us:List V}{ds cs:List Addr}{xs':LLInt}{es' ss':List Ms}{bs':Ms}(hr:Reps K H us (xs'.map tI))
 (l1:ds.length=es'.length) (h1:∀(i:Nat) d m,ds[i]?=some d->es'[i]?=some m->H d=some (.dK (cK m))/\d≠en) (l2:cs.length=ss'.length) (h2:∀(i:Nat) d m,cs[i]?=some d->ss'[i]?=some m->H d=some (.dK (cK m))/\d≠en) (gw:E4 p xs' es' ss' bs') :
 Bt K CG (upd (upd (upd (upd H pc (.lst us)) sh (.lst (cs.map V.ref))) ed (.lst (ds.map V.ref))) en (.dK (cK bs'))) g pc sh ed en p xs' es' ss' bs':=by
 obtain⟨dx,fs,a1,a2⟩:=x.ob;obtain⟨n1,n2,n3⟩:=x.ne;have mu:=x.mut
 have ins:∀{c:Addr}{o:HO},H c=some o->(∀us,o≠.lst us)->c≠en->upd (upd (upd (upd H pc (.lst us)) sh (.lst (cs.map V.ref))) ed (.lst (ds.map V.ref))) en (.dK (cK bs')) c=some o:=fun {c o} e n m=>by
  obtain⟨_,q1,_⟩:=x.pcs;obtain⟨_,q2,_⟩:=x.shs.ex;obtain⟨_,q3,_⟩:=x.eds.ex;rw[Ae m,Ae (fun z=>by rw[z,q3]at e;cases e;exact n _ rfl),Ae (fun z=>by rw[z,q2]at e;cases e;exact n _ rfl),Ae (fun z=>by rw[z,q1]at e;cases e;exact n _ rfl)];exact e
 have SH:∀{c:Addr}{us:List V},H c=some (.lst us)->c≠en:=fun {c us} e z=>by rw[z,x.ens]at e;cases e
 obtain⟨_,q1,_⟩:=x.pcs;obtain⟨_,q2,_⟩:=x.shs.ex;obtain⟨_,q3,_⟩:=x.eds.ex
 have ts:E8 H (upd (upd (upd (upd H pc (.lst us)) sh (.lst (cs.map V.ref))) ed (.lst (ds.map V.ref))) en (.dK (cK bs'))) :=
  ⟨fun b us e=>ins e (fun _ z=>by cases z) (fun z=>by rw[z,x.ens]at e;cases e),fun b o u e=>ins e (fun _ z=>by cases z) (fun z=>by rw[z,x.ens]at e;cases e)⟩
 refine⟨⟨dx,fs,ins a1 (fun _ z=>by cases z) (fun z=>by rw[z,x.ens]at a1;cases a1),a2⟩,⟨us,?_,Reps.t ts (Fw _) hr⟩,⟨ds,?_,l1,fun i d m e1 e2=>?_⟩,⟨cs,?_,l2,fun i d m e1 e2=>?_⟩,Ad,x.ne,gw,x.pr⟩
 . rw[Ae (SH q1),Ae n2,Ae n1,Ad]
 . rw[Ae (SH q3),Ad]
 . obtain⟨c1,c2⟩:=h1 i d m e1 e2;exact⟨ins c1 (fun _ z=>by cases z) c2,c2⟩
 . rw[Ae (SH q2),Ae n3,Ad]
 . obtain⟨c1,c2⟩:=h2 i d m e1 e2;exact⟨ins c1 (fun _ z=>by cases z) c2,c2⟩
end
def hidG(H:Hp)(Z:Addr->Prop):Hp:=fun a=>@ite _ (Z a) (Classical.propDecidable _) none (H a)
section
variable{H H' H0:Hp}{Z W:Addr->Prop}
theorem Qo{a:Addr}(h:¬Z a):hidG H Z a=H a:=by unfold hidG;rw[if_neg h]
theorem CD{a:Addr}(h:Z a):hidG H Z a=none:=by unfold hidG;rw[if_pos h]
theorem Bn:Same (hidG H Z) H:=fun a o e=>by
 by_cases h:Z a
 . rw[CD h]at e;cases e
 . rw[Qo h]at e;exact e
theorem Sw(h:∀a o,¬Z a->H a=some o->H' a=some o):Same (hidG H Z) (hidG H' Z):=fun a o e=>by
 by_cases hz:Z a
 . rw[CD hz]at e;cases e
 . rw[Qo hz]at e ⊢;exact h a o hz e
theorem HU(s:Same H H'):Same (hidG H Z) (hidG H' Z):=Sw fun a o _ e=>s a o e
theorem Fx{a:Addr}{o:HO}(h:∀c,Z c->H0 c≠none)(h0:H0 a=none)(e:H a=some o):hidG H Z a=some o:=by rw[Qo (fun w=>h a w h0)];exact e
theorem Hz.hid{pc sh ed en:Addr}(fr:Hz pc sh ed en H H')(hs:∀c,W4 pc sh ed en c->Z c):Same (hidG H Z) (hidG H' Z):=Sw fun a o n e=>fr a o (fun w=>n (hs a w)) e
end
def LH(K:W.Frag)(H:Hp)(W:Addr->Prop)(p:Addr)(xs:LLInt):Prop:=∃us,hidG H W p=some (.lst us)/\Reps K H us (xs.map tI)
section
variable{K:W.Frag}{CG:Addr}{H H':Hp}{g pc sh ed en:Addr}{p:Int}{xs:LLInt}{es ss:List Ms}{bs:Ms}{W:Addr->Prop}
theorem LH.lt{a:Addr}(h:LH K H W a xs):LT K H (.ref a) xs:=by
 obtain⟨us,h1,h2⟩:=h;exact⟨a,us,rfl,.of (Bn _ _ h1),h2⟩
theorem LH.same{a:Addr}(s:Same H H')(h:LH K H W a xs):LH K H' W a xs:=by
 obtain⟨us,h1,h2⟩:=h;exact⟨us,HU s _ _ h1,Reps.same s h2⟩
theorem LH.new{H0:Hp}{a:Addr}{us:List V}(h0:∀c,W c->Mut H0 c)(h1:H0 a=none)(h2:H a=some (.lst us))(h3:Reps K H us (xs.map tI)):LH K H W a xs:=⟨us,Fx (fun c w=>(h0 c w).there) h1 h2,h3⟩
theorem LH.fr{a:Addr}(x:Bt K CG H g pc sh ed en p xs es ss bs){ys:LLInt}(fr:Hz pc sh ed en H H')(hs:∀c,W4 pc sh ed en c->W c)(h:LH K H W a ys):LH K H' W a ys:=by
 obtain⟨us,h1,h2⟩:=h;exact⟨us,fr.hid hs _ _ h1,Reps.t (fr.t x) (Fw _) h2⟩
theorem Bt.mutW{xs':LLInt}{es' ss':List Ms}{bs':Ms}(x:Bt K CG H' g pc sh ed en p xs' es' ss' bs')(fr:Hz pc sh ed en H H')(hm:∀c,W c->Mut H c):∀c,W c->Mut H' c:=fun c w=>by
 by_cases h:W4 pc sh ed en c
 . exact x.mut c h
 . rcases hm c w with⟨_,e⟩|⟨_,e⟩
   . exact .inl ⟨_,fr _ _ h e⟩
   . exact .inr ⟨_,fr _ _ h e⟩
end
def meetsB(xs:LLInt)(fs:List Int)(f:Int):Bool:=decide ((xs.getD f.toNat []).length=0) || (List.range fs.length).all fun i=>decide ((xs.getD f.toNat []).getD i 0=(xs.getD (fs.getD i 0).toNat []).getD (fs.length-1) 0)
section
variable(K:W.Frag)(CG:Addr)
def Kf(_K:W.Frag):Sp:=fun vs H Q _=>∃(a:Addr) (ms:Ms) (p:Int),vs=[.ref a,.int p]/\H a=some (.dK (cK ms))/\ms.length<=1000/\nd ms/\0<p/\newC H (modI p ms) Q
def Rj(_K:W.Frag):Sp:=fun vs H Q _=>∃(p:Int),vs=[.int p]/\D8 p/\p<98/\∀H',Same H H'->Q (.bl true) H'
def p9:Sp:=fun vs H Q _=>∃n p:Int,vs=[.int n,.int p]/\D8 p/\p<98/\¬p∣n/\∀(L:Addr) (x y:Int) (H':Hp),Same H H'->Dw K H' L [.int 1,.int x,.int y]->p∣1-x*n->Q (.ref L) H'
def Vg(_K:W.Frag):Sp:=fun vs H Q _=>∃n p:Int,vs=[.int n,.int p]/\D8 p/\p<98/\¬p∣n/\∀(f:Int) (H':Hp),Same H H'->0<=f->f<p->p∣1-f*n->Q (.int f) H'
def Vh:Sp:=fun vs H Q _=>∃(a:Addr) (th:V) (e:DE) (xs:LLInt),vs=[.ref a,th]/\LT K H (.ref a) xs/\FO K H th e/\∀H',Same H H'->Q (.bl (E7 xs e)) H'
def Rk:Sp:=fun vs H Q _=>∃(a:Addr) (th:V) (e:DE) (xs:LLInt),vs=[.ref a,th]/\LT K H (.ref a) xs/\X5 xs/\xs.length<=1000/\FO K H th e/\∀H',Same H H'->Q (.bl (E7 xs e)) H'
def No:Sp:=fun vs H Q _=>∃(a:Addr) (v:V) (xs:LLInt) (fs:List Int) (f:Int),vs=[.ref a,v,.int f]/\LT K H (.ref a) xs/\TI K H v fs/\0<=f/\f<(xs.length:Int)/\(∀g∈fs,0<=g/\g<(xs.length:Int))/\fs.length<=4 ∧
 ((xs.getD f.toNat []).length=0\/(fs.length<=(xs.getD f.toNat []).length/\∀g∈fs,fs.length<=(xs.getD g.toNat []).length))/\Q (.bl (meetsB xs fs f)) H
def Ml:Sp:=fun vs H Q _=>∃(g dx:Addr) (p:Int),vs=[.ref g,.int p]/\H g=some (.ins CG dx [])/\D8 p/\p<98 ∧
 ∀(pc sh ed en:Addr) (H':Hp),H pc=none->H sh=none->H ed=none->H en=none->SameX g H H'->Bt K CG H' g pc sh ed en p [] [] [] []->Q .non H'
def Rt:Sp:=fun vs H Q _=>∃(g pc sh ed en:Addr) (p:Int) (xs:LLInt) (es ss:List Ms) (bs:Ms),vs=[.ref g]/\Bt K CG H g pc sh ed en p xs es ss bs ∧
 ∀(l:Addr) (us:List V) (H':Hp),H l=none->Same H H'->H' l=some (.lst us)->Reps K H' us (xs.map tI)->Q (.ref l) H'
end
theorem mod_take{p:Int}{ms:Ms}{i:Nat}{q:Int × Int}(hq:ms[i]?=some q):modI p (ms.take (i+1))=if q.2%p=0 then modI p (ms.take i) else modI p (ms.take i)++[(q.1,q.2%p)]:=by
 unfold modI;rw[List.take_succ,hq,List.filter_append,List.map_append];show _++((List.filter _ [q]).map _)=_;by_cases h:q.2%p=0
 . rw[if_pos h,List.filter_cons_of_neg (by simpa using h)];simp
 . rw[if_neg h,List.filter_cons_of_pos (by simpa using h)];rfl
theorem Tp{xs:LLInt}{p:List Int}{j:Nat}(hj:j<p.length):meetsB xs (p.take j) (p.getD j 0)=(decide ((xs.getD (p.getD j 0).toNat []).length=0) || (List.range j).all fun i=>Ob xs p j i):=by
 unfold meetsB;have hl:(p.take j).length=j:=by rw[List.length_take];omega
 rw[hl]
 congr 1
 rw[Bool.eq_iff_iff,List.all_eq_true,List.all_eq_true];have e:∀i,i<j->(p.take j).getD i 0=p.getD i 0:=fun i hi=>by rw[List.getD_eq_getElem?_getD,List.getD_eq_getElem?_getD,List.getElem?_take_of_lt hi]
 constructor
 . intro h i hi;have:=h i hi;rw[e i (List.mem_range.mp hi)]at this;exact this
 . intro h i hi;rw[e i (List.mem_range.mp hi)];exact h i hi
theorem iU{xs:LLInt}{p:List Int}(hC:X5 xs)(hall:∀f∈p,0<=f/\f<(xs.length:Int)/\Bq (xs.getD f.toNat []).length+1=Bq p.length):(∀j,j<p.length->meetsB xs (p.take j) (p.getD j 0)=true)↔(decide (Bq p.length<2) || E3 xs p)=true:=by
 constructor
 . intro h;by_cases hl:Bq p.length<2
   . rw[decide_eq_true hl];rfl
   . rw[decide_eq_false hl,Bool.false_or];unfold E3;rw[List.all_eq_true];intro j hj;have hj':=List.mem_range.mp hj;have h1:=h j hj';rw[Tp hj']at h1;obtain⟨x0,x1,x2⟩:=hall _ (D4 (d:=0) hj');have hne:¬(xs.getD (p.getD j 0).toNat []).length=0:=fun z=>by rw[z,Cs]at x2;omega
     rw[decide_eq_false hne,Bool.false_or]at h1;exact h1
 . intro h j hj;rw[Tp hj];obtain⟨x0,x1,x2⟩:=hall _ (D4 (d:=0) hj);by_cases hl:Bq p.length<2
   . have hc:=hC.at x0 x1;have hz:(xs.getD (p.getD j 0).toNat []).length=0:=by rw[Cs]at x2;omega
     rw[decide_eq_true hz];rfl
   . rw[decide_eq_false hl,Bool.false_or]at h;unfold E3 at h;rw[List.all_eq_true]at h;rw[h j (List.mem_range.mpr hj),Bool.or_true]
section
variable{K:W.Frag}{CG CP CS:Addr}
end
theorem init_step{H Hk:Hp}{g a C dx:Addr}{fs:List (Str × V)}(fs':List (Str × V)){o:HO}(sx:SameX g H Hk)(eg:Hk g=some (.ins C dx fs))(ha:Hk a=none) :
 SameX g H (upd (upd Hk a o) g (.ins C dx fs'))/\upd (upd Hk a o) g (.ins C dx fs') g=some (.ins C dx fs')/\upd (upd Hk a o) g (.ins C dx fs') a=some o/\(∀b q,b≠g->Hk b=some q->upd (upd Hk a o) g (.ins C dx fs') b=some q)/\H a=none/\a≠g:=by
 have qU:a≠g:=fun z=>by rw[z,eg]at ha;cases ha
 have vE:∀b q,b≠g->Hk b=some q->upd (upd Hk a o) g (.ins C dx fs') b=some q:=fun b q n e=>by rw[Ae n,Ae (fun z=>by rw[z,ha]at e;cases e)];exact e
 refine⟨fun b q n e=>vE b q n (sx b q n e),Ad,by rw[Ae qU,Ad],vE,?_,qU⟩;cases e:H a with
 | none=>rfl
 | some q=>have:=sx a q qU e;rw[ha]at this;cases this
theorem U6(ms:Ms):(cK ms).map (·.1)=(A3 ms).map fun k=>(.inl k:Key):=by
 unfold cK A3;rw[List.map_map,List.map_map];rfl
theorem U5{ms:Ms}(h:ms≠[]):A3 ms≠[]:=fun z=>h (by unfold A3 at z;simpa using z)
theorem R5{K:W.Frag}{H:Hp}{us:List V}{xs:LLInt}{q:List Int}(r:Reps K H us ((xs++[q]).map tI)):∃OF y,us=OF++[y]/\Reps K H OF (xs.map tI)/\TI K H y q:=by
 have hl:us.length=xs.length+1:=by have:=r.length;simpa using this
 obtain⟨OF,y,rfl,XM⟩:=P7 hl;refine⟨OF,y,rfl,?_,?_⟩
 . have:=r.take xs.length;rw[←List.map_take,List.take_append_of_le_length (Nat.le_of_eq XM.symm),List.take_append_of_le_length (Nat.le_refl _),List.take_length,←XM,List.take_length]at this;exact this
 . have e:((xs++[q]).map tI)[xs.length]?=some (tI q):=by rw[List.getElem?_map,List.getElem?_append_right (Nat.le_refl _)];simp
   obtain⟨v,hv,tv⟩:=r.get e;rw[List.getElem?_append_right (by omega)]at hv;have:y=v:=by simpa[XM]using hv
   rw[this];exact tv
theorem AD{α:Type}(l:List α)(x:α):(l++[x])[(l++[x]).length-1]?=some x:=by simp
theorem HH{H H1:Hp}{a:Addr}{o:HO}(h:H a=none)(s:Iq a (upd H a o) H1):Same H H1:=fun c q e=>by
 have n:c≠a:=Ap e h;exact s c q n (by rw[Ae n];exact e)
theorem He(l:List Addr)(a:Addr):l.map V.ref++[.ref a]=(l++[a]).map V.ref:=by rw[List.map_append];rfl
theorem Tu{H:Hp}{en d:Addr}{ds:List Addr}{ms:List Ms}{m:Ms}(hl:ds.length=ms.length)(h:∀(i:Nat) d m,ds[i]?=some d->ms[i]?=some m->H d=some (.dK (cK m))/\d≠en)(hd:H d=some (.dK (cK m)))(hn:d≠en) :
 (ds++[d]).length=(ms++[m]).length/\∀(i:Nat) d' m',(ds++[d])[i]?=some d'->(ms++[m])[i]?=some m'->H d'=some (.dK (cK m'))/\d'≠en:=by
 refine⟨by simp[hl],fun i d' m' e1 e2=>?_⟩;rcases Cv e1 with⟨h1,e1⟩|⟨h1,rfl⟩
 . rcases Cv e2 with⟨_,e2⟩|⟨h2,_⟩
   . exact h i d' m' e1 e2
   . omega
 . rcases Cv e2 with⟨h2,_⟩|⟨_,rfl⟩
   . omega
   . exact⟨hd,hn⟩
theorem Tv{H:Hp}{en:Addr}{ds:List Addr}{ms:List Ms}{m:Ms}(hl:ds.length=(ms++[m]).length)(h:∀(i:Nat) d m',ds[i]?=some d->(ms++[m])[i]?=some m'->H d=some (.dK (cK m'))/\d≠en) :
 ∃cG d,ds=cG++[d]/\cG.length=ms.length/\(∀(i:Nat) d m',cG[i]?=some d->ms[i]?=some m'->H d=some (.dK (cK m'))/\d≠en)/\H d=some (.dK (cK m))/\d≠en:=by
 obtain⟨cG,d,rfl,h0⟩:=P7 (show ds.length=ms.length+1 by simpa using hl);refine⟨cG,d,rfl,h0,fun i d' m' e1 e2=>h i d' m' (by rw[List.getElem?_append_left (List.getElem?_eq_some_iff.mp e1).1];exact e1) (by rw[List.getElem?_append_left (List.getElem?_eq_some_iff.mp e2).1];exact e2),h cG.length d m (by simp) (by rw[h0];simp)⟩
theorem Hz.four{pc sh ed en:Addr}{H H7:Hp}{o1 o2 o3 o4:HO}(s:Same H H7):Hz pc sh ed en H (upd (upd (upd (upd H7 pc o1) sh o2) ed o3) en o4) :=
 ((((Hz.of s).trans (Hz.up (.inl rfl))).trans (Hz.up (.inr (.inl rfl)))).trans (Hz.up (.inr (.inr (.inl rfl))))).trans (Hz.up (.inr (.inr (.inr rfl))))
theorem b7(n:Int)(ms:Ms):(Bg n ms).length<=ms.length:=by
 unfold Bg;split
 . exact Nat.zero_le _
 . rw[List.length_map];exact Nat.le_refl _
theorem P3{n:Int}{ms:Ms}(h:nd ms):nd (Bg n ms):=by
 unfold Bg;split
 . exact List.nodup_nil
 . exact Kq h _
theorem kR{a f p:Int}(a0:0<a)(a1:a<p)(f0:0<=f)(f1:f<p)(hp:p<98):-(10000:Int) < -a*f/\-a*f<=0:=by
 have h1:a*f<=97*97:=Int.mul_le_mul (by omega) (by omega) f0 (by omega);have h2:0<=a*f:=Int.mul_nonneg (by omega) f0;have e:-a*f=-(a*f):=Int.neg_mul a f;omega
theorem Y9{f:Str}{v:V}{fs:List (Str × V)}{n:Nat}(h:fs.length<=n):(putF f v fs).length<=n+1:=Nat.le_trans (M0 f v fs) (by omega)
end Hb
namespace L2
open PySem PySem.Spec PyProof.Rows
theorem P4{t u:TS}{D:Ends}{σ:St}{H:Hp}(σ1:St)(H1:Hp)(ht:∀D':Ends,D'.nx σ1 H1->t D' σ H)(h:u D σ1 H1):KP t u D σ H:=ht { D with nx:=u D } h
end L2
namespace Hb
open PySem L2
theorem RO(n d:Nat):HT.sIx (n+1) d (some (-1))=n:=by
 show(if (-1:Int)<0 then((-1:Int)+((n+1:Nat):Int)).toNat else min (-1:Int).toNat (n+1))=n;rw[if_pos (by decide)];omega
theorem nM(us:List V)(y:V):Ta (us++[y]) none (some (-1))=us:=by
 unfold Ta;rw[List.length_append,show us.length+[y].length=us.length+1 from rfl,RO,HT.sIx_none];simp
theorem oM{H:Hp}{pc sh ed en:Addr}{o1 o2 o3 o4:HO}(n1:pc≠sh)(n2:pc≠ed)(n3:sh≠ed)(n4:en≠pc)(n5:en≠sh)(n6:en≠ed) :
 upd (upd (upd (upd H ed o3) en o4) sh o2) pc o1=upd (upd (upd (upd H pc o1) sh o2) ed o3) en o4:=by
 funext c
 by_cases h1:c=pc
 . subst h1;rw[Ad,Ae n4.symm,Ae n2,Ae n1,Ad]
 by_cases h2:c=sh
 . subst h2;rw[Ae n1.symm,Ad,Ae n5.symm,Ae n3,Ad]
 by_cases h3:c=en
 . subst h3;rw[Ae n4,Ae n5,Ad,Ad]
 by_cases h4:c=ed
 . subst h4;rw[Ae n2.symm,Ae n3.symm,Ae n6.symm,Ad,Ae n6.symm,Ad]
 rw[Ae h1,Ae h2,Ae h3,Ae h4,Ae h3,Ae h4,Ae h2,Ae h1]
theorem FI{g:TG}{te:TE}{D:Addr}{Q:Hp->Prop}{τ:St}{H:Hp}{K:W.Frag}{a b:Addr}{xs ys:List V}{n:Nat}(hn:xs.length=n/\ys.length=n)(Pv:Nat->List V->St->Hp->Prop)(h0:Pv 0 [] τ H)(hl:∀i zs τ H,i<=n->Pv i zs τ H->Dw K H a xs/\Dw K H b ys)
 (hs:∀i x y zs τ H p,xs[i]?=some x->ys[i]?=some y->Pv i zs τ H->H p=none->g (.ref p) τ (upd H p (.tup [x,y])) fun τ2 H2=>te τ2 H2 fun y H4=>H4 D=some (.lst zs)/\zs.length<sizeLine/\Pv (i+1) (zs++[y]) τ2 (upd H4 D (.lst (zs++[y]))))
 (hd:∀zs τ H,Pv n zs τ H->Q H):Qz (Ityp K a b) g kP te D Q τ H:=jU hn Pv h0 hl (fun i x y zs τ H p e1 e2 q hp=>hs i x y zs τ H p e1 e2 q hp) hd
theorem nA{xs:LLInt}:Cj xs (tI [])=true:=by
 show Cj xs (.tup [])=true;rw[Cp];rfl
def Mb(W:Addr->Prop)(H H':Hp):Prop:=∀c o,¬W c->H c=some o->H' c=some o
section
variable{K:W.Frag}{CG:Addr}{H H' H1 H2:Hp}{W:Addr->Prop}{g pc sh ed en:Addr}{p:Int}{xs:LLInt}{es ss:List Ms}{bs:Ms}
theorem Mb.of(s:Same H H'):Mb W H H':=fun c o _ e=>s c o e
theorem Mb.trans(a:Mb W H H1)(b:Mb W H1 H2):Mb W H H2:=fun c o n e=>b c o n (a c o n e)
theorem Mb.ofG(hs:∀c,W4 pc sh ed en c->W c)(fr:Hz pc sh ed en H H'):Mb W H H':=fun c o n e=>fr c o (fun w=>n (hs c w)) e
theorem Mb.up{c:Addr}{o:HO}(h:W c):Mb W H (upd H c o):=fun d u n e=>by
 have hn:d≠c:=fun z=>by subst z;exact n h
 rw[Ae hn];exact e
theorem Mb.hid(fr:Mb W H H'):Same (hidG H W) (hidG H' W):=Sw fun a o n e=>fr a o n e
theorem Mb.t(hM:∀c,W c->Mut H c)(fr:Mb W H H'):E8 H H':=by
 refine⟨fun b us e=>fr b _ (fun w=>?_) e,fun b o u e=>fr b _ (fun w=>?_) e⟩
 . rcases hM b w with⟨_,z⟩|⟨_,z⟩<;>(rw[z]at e;cases e)
 . rcases hM b w with⟨_,z⟩|⟨_,z⟩<;>(rw[z]at e;cases e)
theorem LH.frW{a:Addr}(hM:∀c,W c->Mut H c)(fr:Mb W H H')(h:LH K H W a xs):LH K H' W a xs:=by
 obtain⟨us,h1,h2⟩:=h;exact⟨us,fr.hid _ _ h1,Reps.t (fr.t hM) (Fw _) h2⟩
theorem Bt.le4(x:Bt K CG H g pc sh ed en p xs es ss bs):xs.length<=1000/\∀y∈xs,y.length<=4:=by
 have h1:=x.gw.n40;refine⟨by omega,fun y hy=>?_⟩;have:=Rz x.gw.shp y hy;omega
theorem v7{us:List V}{i:Nat}{t:Addr}(r:Reps K H us ((List.replicate i ([]:List Int)).map tI))(ht:H t=some (.tup [])):Reps K H (us++[.ref t]) ((List.replicate (i+1) ([]:List Int)).map tI):=by
 rw[List.replicate_succ',List.map_append];exact Reps.append r ⟨_,_,rfl,TI.mk (.of ht),rfl⟩
end
theorem mJ{α:Type}{l:List α}(h:l.length=2):∃x y,l=[x,y]:=by
 match l,h with
 | [x,y],_=>exact⟨x,y,rfl⟩
theorem MJ{α:Type}{l:List α}(h:l.length=3):∃x y z,l=[x,y,z]:=by
 match l,h with
 | [x,y,z],_=>exact⟨x,y,z,rfl⟩
theorem D8.split{p a u:Int}(hp:D8 p)(hu:¬p∣u)(h:p∣a*u):p∣a:=by
 have hg:Int.gcd u p=1:=by
  have h1:((Int.gcd u p:Nat):Int)∣p:=Int.gcd_dvd_right ..;have h2:((Int.gcd u p:Nat):Int)∣u:=Int.gcd_dvd_left ..
  have h0:0<((Int.gcd u p:Nat):Int):=by
   have:Int.gcd u p≠0:=fun z=>by
    have:=(Int.gcd_eq_zero_iff.mp z).2;have:=hp.two;omega
   omega
  rcases hp.div h0 h1 with z | z
  . omega
  . rw[z]at h2;exact absurd h2 hu
 have hn:Nat.Coprime p.natAbs u.natAbs:=by
  unfold Nat.Coprime;rw[Nat.gcd_comm];exact hg
 have h3:p.natAbs∣a.natAbs*u.natAbs:=by rw[←Int.natAbs_mul];exact Int.natAbs_dvd_natAbs.mpr h
 exact Int.natAbs_dvd_natAbs.mp (hn.dvd_of_dvd_mul_right h3)
theorem m9{p:Int}{f:Nat->Int}:∀{n:Nat},(∀j,j<n->p∣f j)->p∣A1 f n
 | 0,_=>⟨0,by simp[A1]⟩
 | n+1,h=>Int.dvd_add (m9 fun j hj=>h j (by omega)) (h n (by omega))
theorem Ib{p:Int}{f g:Nat->Int}{n:Nat}(h:∀j,j<n->p∣f j-g j):p∣A1 f n-A1 g n:=by
 have e:A1 f n-A1 g n=A1 (fun j=>f j-g j) n:=by
  have:A1 f n=A1 (fun j=>(f j-g j)+g j) n:=Bb fun k _=>by omega
  rw[this,Mf];omega
 rw[e];exact m9 h
theorem fR{p:Int}{f:Nat->Int}{i:Nat}:∀{n:Nat},i<n->(∀j,j<n->j≠i->p∣f j)->p∣A1 f n->p∣f i
 | n+1,hi,h,hs=>by
   have hs:p∣A1 f n+f n:=hs;by_cases z:i=n
   . subst z;have h1:p∣A1 f i:=m9 fun j hj=>h j (by omega) (by omega);exact(Int.dvd_add_right h1).mp hs
   . have h1:p∣f n:=h n (by omega) (fun e=>z e.symm);exact fR (by omega) (fun j hj hn=>h j (by omega) hn) ((Int.dvd_add_left h1).mp hs)
theorem fZ(q:List Int)(f:Int):∀n,Ko q f n=A1 (fun i=>sg i*jF (q.getD i 0) f) n
 | 0=>rfl
 | n+1=>by
   have e:=fZ q f n;show(if q.getD n 0=f then Ko q f n+1-2*((n:Int)%2) else Ko q f n)=A1 _ n+sg n*jF (q.getD n 0) f;rw[←e];unfold jF sg;by_cases h:q.getD n 0=f
   . rw[if_pos h,if_pos h];omega
   . rw[if_neg h,if_neg h];omega
theorem HB{xs:LLInt}(hs:Ir xs){k:Nat}(hk:k<xs.length)(e:Int):A1 (fun j=>C9 (xs.getD k []) (j:Int)*C9 (xs.getD j []) e) xs.length=0:=by
 have hq:xs[k]?=some (xs.getD k []):=by rw[List.getD_eq_getElem?_getD,List.getElem?_eq_getElem hk];rfl
 have ht:=UN hs hq e;have hf:OE (xs.take k) (xs.getD k []):=hs k _ hq;generalize xs.getD k []=q at hq ht hf
 have hin:∀i,i<q.length->0<=q.getD i 0/\(q.getD i 0).toNat<xs.length:=fun i hi=>by
  have hm:=D4 (d:=0) hi;obtain⟨r,hr,_⟩:=hf.bel _ hm;have:=(List.getElem?_eq_some_iff.mp hr).1;rw[List.length_take]at this;exact⟨hf.low _ hm,by omega⟩
 have e1:A1 (fun j=>C9 q (j:Int)*C9 (xs.getD j []) e) xs.length=A1 (fun j=>A1 (fun i=>sg i*jF (q.getD i 0) (j:Int)*C9 (xs.getD j []) e) q.length) xs.length:=Bb fun j _=>by
  show Ko q (j:Int) q.length*_=_;rw[fZ,←Rg]
 rw[e1,Nn];refine Eq.trans (Bb fun i hi=>?_) ht;obtain⟨h0,h1⟩:=hin i hi
 have e2:A1 (fun j=>sg i*jF (q.getD i 0) (j:Int)*C9 (xs.getD j []) e) xs.length=sg i*A1 (fun j=>(if j=(q.getD i 0).toNat then 1 else 0)*C9 (xs.getD j []) e) xs.length:=by
  rw[←Gm];refine Bb fun j _=>?_;unfold jF;by_cases z:j=(q.getD i 0).toNat
  . rw[if_pos z,if_pos (by omega)];rw[Int.mul_one,Int.one_mul]
  . rw[if_neg z,if_neg (fun y=>z (by omega))];simp
 rw[e2,Kc,if_pos h1]
structure D7(p:Int)(xs:LLInt)(es ss:List Ms):Prop where
 own:∀(i:Nat) s,ss[i]?=some s->Au s (i:Int)=1
 lev:∀(i:Nat) s,ss[i]?=some s->∀x∈A3 s,(xs.getD x.toNat []).length-1=(xs.getD i []).length-1
 bd:∀(i:Nat) s e,ss[i]?=some s->es[i]?=some e->∀x:Int,p∣A1 (fun j=>Au s (j:Int)*C9 (xs.getD j []) x) xs.length-Au e x
section
variable{p:Int}{xs:LLInt}{es ss:List Ms}{bs:Ms}
theorem U8(x:Int):Au [] x=0:=by simp[Au,lookI]
theorem uX(s:Nat->Int->Int)(own:∀j:Nat,s j (j:Int)=1)(out:∀(j:Nat) (x:Int),x<0\/(j:Int)<x->s j x=0):∀(m:Nat) (z:Int->Int),(∀x,x<0\/(m:Int)<=x->p∣z x)->∃a:Nat->Int,(∀k,k+1=m->a k=z (k:Int))/\∀x,p∣z x-A1 (fun j=>a j*s j x) m
 | 0,z,hz=>⟨fun _=>0,fun k h=>by omega,fun x=>by
    have h1:p∣z x:=hz x (by omega);have:A1 (fun j=>(fun _=>(0:Int)) j*s j x) 0=0:=rfl;rw[this,Int.sub_zero];exact h1⟩
 | m+1,z,hz=>by
   obtain⟨a,_,h⟩:=uX s own out m (fun x=>z x-z (m:Int)*s m x) (fun x hx=>by
    by_cases e:x=(m:Int)
    . subst e;show p∣z (m:Int)-z (m:Int)*s m (m:Int);rw[own,Int.mul_one,Int.sub_self];exact Int.dvd_zero p
    . have OH:x<0\/(m:Int)<x:=by omega
      show p∣z x-z (m:Int)*s m x;rw[out m x OH,Int.mul_zero,Int.sub_zero];exact hz x (by omega))
   refine⟨fun j=>if j=m then z (m:Int) else a j,fun k hk=>?_,fun x=>?_⟩
   . have:k=m:=by omega
     subst this;exact if_pos rfl
   . have e:A1 (fun j=>(fun j=>if j=m then z (m:Int) else a j) j*s j x) (m+1)=A1 (fun j=>a j*s j x) m+z (m:Int)*s m x:=by
      show A1 _ m+(if m=m then z (m:Int) else a m)*s m x=_;rw[if_pos rfl]
      congr 1
      exact Bb fun j hj=>by
       show(if j=m then z (m:Int) else a j)*s j x=_;rw[if_neg (by omega)]
     rw[e];have:=h x;have e2:z x-(A1 (fun j=>a j*s j x) m+z (m:Int)*s m x)=z x-z (m:Int)*s m x-A1 (fun j=>a j*s j x) m:=by omega
     rw[e2];exact this
theorem free{p:Int}(hp:D8 p){n m:Nat}(e:Nat->Int->Int)(top:Nat->Int->Prop)(a:Nat->Int)(h1:∀j t,j<m->top j t->0<=t/\t<(n:Int)/\¬p∣e j t)(h2:∀j t x,top j t->t<x->e j x=0)(h3:∀i j t,top i t->top j t->i=j)
 (h4:∀j,j<m->(∃t,top j t)\/∀x,e j x=0) (hz:∀y,p∣A1 (fun j=>a j*e j y) m):∀(d j:Nat) (t:Int),j<m->top j t->n-t.toNat<=d->p∣a j
 | 0,j,t,hj,ht,hd=>by
   obtain⟨x0,x1,_⟩:=h1 j t hj ht;omega
 | d+1,j,t,hj,ht,hd=>by
   obtain⟨x0,x1,x2⟩:=h1 j t hj ht;refine hp.split x2 (fR (f:=fun j=>a j*e j t) hj (fun j' hj' hn=>?_) (hz t));show p∣a j'*e j' t;rcases h4 j' hj' with⟨t',ht'⟩ | h0
   . obtain⟨y0,y1,_⟩:=h1 j' t' hj' ht';by_cases c:t'<t
     . rw[h2 j' t' t ht' c,Int.mul_zero];exact Int.dvd_zero p
     . by_cases c2:t'=t
       . subst c2;exact absurd (h3 _ _ _ ht' ht) hn
       . have:=free hp e top a h1 h2 h3 h4 hz d j' t' hj' ht' (by omega);exact Int.dvd_trans this (Int.dvd_mul_right ..)
   . rw[h0,Int.mul_zero];exact Int.dvd_zero p
theorem MY{l:List Ms}{i:Nat}{m:Ms}(h:l[i]?=some m):l.getD i []=m:=by rw[List.getD_eq_getElem?_getD,h];rfl
theorem Px{l:List Ms}{i:Nat}(h:i<l.length):l[i]?=some (l.getD i []):=by rw[List.getD_eq_getElem?_getD,List.getElem?_eq_getElem h];rfl
theorem NX{i:Nat}{m:Ms}{b:Int}(g:E4 p xs es ss bs)(s:D7 p xs es ss)(hp:D8 p)(hi:es[i]?=some m)(tb:Nk m b):es[b.toNat]?=some []:=by
 have hil:i<xs.length:=by rw[←g.le];exact(List.getElem?_eq_some_iff.mp hi).1
 obtain⟨okm,km⟩:=g.eok i m hi;obtain⟨b0,b1,_⟩:=km b tb.mem;obtain⟨lk,v0,v1⟩:=tb.look okm;have wD:b.toNat<xs.length:=by omega
 have hes:es[b.toNat]?=some (es.getD b.toNat []):=Px (by rw[g.le];exact wD);by_cases hz:es.getD b.toNat []=[]
 . rw[hes,hz]
 exfalso
 have hS:∀j,j<xs.length->ss[j]?=some (ss.getD j []):=fun j hj=>Px (by rw[g.ls];exact hj);have hE:∀j,j<xs.length->es[j]?=some (es.getD j []):=fun j hj=>Px (by rw[g.le];exact hj);obtain⟨sf,zH⟩:∃sf:Nat->Int->Int,sf=fun j x=>if j<xs.length then Au (ss.getD j []) x else if x=(j:Int) then 1 else 0:=⟨_,rfl⟩
 have own:∀j:Nat,sf j (j:Int)=1:=fun j=>by
  rw[zH];show(if j<xs.length then Au (ss.getD j []) (j:Int) else if (j:Int)=(j:Int) then 1 else 0)=1;by_cases h:j<xs.length
  . rw[if_pos h];exact s.own j _ (hS j h)
  . rw[if_neg h,if_pos rfl]
 have out:∀(j:Nat) (x:Int),x<0\/(j:Int)<x->sf j x=0:=fun j x hx=>by
  rw[zH];show(if j<xs.length then Au (ss.getD j []) x else if x=(j:Int) then 1 else 0)=0;by_cases h:j<xs.length
  . rw[if_pos h];refine Ci fun hk=>?_;have:=(g.sok j _ (hS j h)).2 x hk;omega
  . rw[if_neg h,if_neg (by omega)]
 have YC:∀x,x<0\/((b.toNat+1:Nat):Int)<=x->p∣Au m x:=fun x hx=>by
  have:Au m x=0:=Ci fun hk=>by
   have h1:=tb.le x hk;have h2:=(km x hk).1;omega
  rw[this];exact Int.dvd_zero p
 obtain⟨a,ha,dD⟩:=uX (p:=p) sf own out (b.toNat+1) (Au m) YC;have hab:=ha b.toNat rfl;rw[show((b.toNat:Nat):Int)=b by omega]at hab
 have hb0:∀y,p∣A1 (fun x=>Au m (x:Int)*C9 (xs.getD x []) y) xs.length:=fun y=>by
  have e1:p∣A1 (fun x=>A1 (fun k=>Au (ss.getD i []) (k:Int)*C9 (xs.getD k []) (x:Int)) xs.length*C9 (xs.getD x []) y) xs.length-A1 (fun x=>Au m (x:Int)*C9 (xs.getD x []) y) xs.length:=Ib fun x _=>by
   have:=s.bd i _ m (hS i hil) hi (x:Int);have e:A1 (fun k=>Au (ss.getD i []) (k:Int)*C9 (xs.getD k []) (x:Int)) xs.length*C9 (xs.getD x []) y-Au m (x:Int)*C9 (xs.getD x []) y=(A1 (fun k=>Au (ss.getD i []) (k:Int)*C9 (xs.getD k []) (x:Int)) xs.length-Au m (x:Int))*C9 (xs.getD x []) y:=by rw[Int.sub_mul]
   rw[e];exact Int.dvd_trans this (Int.dvd_mul_right ..)
  have e2:A1 (fun x=>A1 (fun k=>Au (ss.getD i []) (k:Int)*C9 (xs.getD k []) (x:Int)) xs.length*C9 (xs.getD x []) y) xs.length=0:=by
   have e3:A1 (fun x=>A1 (fun k=>Au (ss.getD i []) (k:Int)*C9 (xs.getD k []) (x:Int)) xs.length*C9 (xs.getD x []) y) xs.length=A1 (fun x=>A1 (fun k=>Au (ss.getD i []) (k:Int)*C9 (xs.getD k []) (x:Int)*C9 (xs.getD x []) y) xs.length) xs.length:=Bb fun x _=>by rw[Rg]
   rw[e3,Nn]
   have e4:A1 (fun k=>A1 (fun x=>Au (ss.getD i []) (k:Int)*C9 (xs.getD k []) (x:Int)*C9 (xs.getD x []) y) xs.length) xs.length=A1 (fun _=>0) xs.length:=Bb fun k hk=>by
    have e5:A1 (fun x=>Au (ss.getD i []) (k:Int)*C9 (xs.getD k []) (x:Int)*C9 (xs.getD x []) y) xs.length=Au (ss.getD i []) (k:Int)*A1 (fun x=>C9 (xs.getD k []) (x:Int)*C9 (xs.getD x []) y) xs.length:=by
     rw[←Gm];exact Bb fun x _=>by rw[Int.mul_assoc]
    rw[e5,HB g.shp hk,Int.mul_zero]
   rw[e4,Nm]
  rw[e2,Int.zero_sub]at e1;exact Int.dvd_neg.mp e1
 obtain⟨ef,hef⟩:∃ef:Nat->Int->Int,ef=fun j x=>Au (es.getD j []) x:=⟨_,rfl⟩
 have hs0:∀y,p∣A1 (fun j=>a j*ef j y) (b.toNat+1):=fun y=>by
  have e1:p∣A1 (fun x=>Au m (x:Int)*C9 (xs.getD x []) y) xs.length-A1 (fun x=>A1 (fun j=>a j*sf j (x:Int)) (b.toNat+1)*C9 (xs.getD x []) y) xs.length:=Ib fun x _=>by
   rw[←Int.sub_mul];exact Int.dvd_trans (dD (x:Int)) (Int.dvd_mul_right ..)
  have e2:=(Int.dvd_sub (hb0 y) e1)
  rw[show ∀u v:Int,u-(u-v)=v from fun u v=>by omega]at e2
  have e3:A1 (fun x=>A1 (fun j=>a j*sf j (x:Int)) (b.toNat+1)*C9 (xs.getD x []) y) xs.length=A1 (fun j=>a j*A1 (fun x=>sf j (x:Int)*C9 (xs.getD x []) y) xs.length) (b.toNat+1):=by
   have e4:A1 (fun x=>A1 (fun j=>a j*sf j (x:Int)) (b.toNat+1)*C9 (xs.getD x []) y) xs.length=A1 (fun x=>A1 (fun j=>a j*sf j (x:Int)*C9 (xs.getD x []) y) (b.toNat+1)) xs.length:=Bb fun x _=>by rw[Rg]
   rw[e4,Nn];refine Bb fun j _=>?_;rw[←Gm];exact Bb fun x _=>by rw[Int.mul_assoc]
  rw[e3]at e2
  have e5:p∣A1 (fun j=>a j*A1 (fun x=>sf j (x:Int)*C9 (xs.getD x []) y) xs.length) (b.toNat+1)-A1 (fun j=>a j*ef j y) (b.toNat+1):=Ib fun j hj=>by
   have hjl:j<xs.length:=by omega
   rw[←Int.mul_sub]
   have e6:A1 (fun x=>sf j (x:Int)*C9 (xs.getD x []) y) xs.length=A1 (fun x=>Au (ss.getD j []) (x:Int)*C9 (xs.getD x []) y) xs.length:=Bb fun x _=>by
    rw[zH];show(if j<xs.length then Au (ss.getD j []) (x:Int) else if (x:Int)=(j:Int) then 1 else 0)*_=_;rw[if_pos hjl]
   rw[e6,hef];exact Int.dvd_trans (s.bd j _ _ (hS j hjl) (hE j hjl) y) (Int.dvd_mul_left ..)
  have e7:=Int.dvd_sub e2 e5;rw[show ∀u v:Int,u-(u-v)=v from fun u v=>by omega]at e7;exact e7
 obtain⟨t,tt⟩:=KO hz;have wB:=free hp (n:=xs.length) ef (fun j t=>j<xs.length/\Nk (es.getD j []) t) a (m:=b.toNat+1) (fun j t hj ⟨hjl,ht⟩=>?_) (fun j t x ⟨hjl,ht⟩ hx=>?_) (fun i j t ⟨hi',ht⟩ ⟨hj',ht'⟩=>?_) (fun j hj=>?_) hs0 _ b.toNat t (by omega) ⟨wD,tt⟩ (Nat.le_refl _)
 . rw[hab]at wB;exact sI v0 v1 wB
 . obtain⟨ok,kk⟩:=g.eok j _ (hE j hjl);obtain⟨k0,k1,_⟩:=kk t ht.mem;obtain⟨_,u0,u1⟩:=ht.look ok;rw[hef];exact⟨k0,by omega,sI u0 u1⟩
 . rw[hef];exact Ci fun hk=>by have:=ht.le x hk;omega
 . have h1:=(g.bls t (i:Int)).mpr ⟨_,_,rfl,hE _ hi',ht⟩;have h2:=(g.bls t (j:Int)).mpr ⟨_,_,rfl,hE _ hj',ht'⟩;rw[h1]at h2;have:=Option.some.inj h2;omega
 . by_cases hn:es.getD j []=[]
   . right;intro x;rw[hef];show Au (es.getD j []) x=0;rw[hn];exact U8 x
   . left;obtain⟨t',ht'⟩:=KO hn;exact⟨t',by omega,ht'⟩
end
structure Lz(p:Int)(xs:LLInt)(q:List Int)(ms me:Ms):Prop where
 own:Au ms (xs.length:Int)=1
 lev:∀x∈A3 ms,x=(xs.length:Int)\/(x<(xs.length:Int)/\(xs.getD x.toNat []).length-1=q.length-1)
 bd:∀y:Int,p∣A1 (fun j=>Au ms (j:Int)*C9 ((xs++[q]).getD j []) y) (xs.length+1)-Au me y
section
variable{p:Int}{xs:LLInt}{q:List Int}{es ss:List Ms}{bs ms me:Ms}
theorem AU(a p:Int):p∣a-a%p:=by
 have:=Int.mul_ediv_add_emod a p;exact⟨a / p,by omega⟩
theorem gH(k x:Int):Au [(k,1)] x=if x=k then 1 else 0:=by
 unfold Au lookI;by_cases h:x=k
 . subst h;simp
 . rw[if_neg h];have:¬k=x:=fun z=>h z.symm;simp[this]
theorem Lz.first(hq:∀f∈q,0<=f):Lz p xs q [((xs.length:Int),1)] (modI p (bA [] q 1)):=by
 refine⟨by rw[gH,if_pos rfl],fun x hx=>?_,fun y=>?_⟩
 . simp[A3]at hx;exact .inl hx
 . have e:A1 (fun j=>Au [((xs.length:Int),1)] (j:Int)*C9 ((xs++[q]).getD j []) y) (xs.length+1)=C9 q y:=by
    have e2:A1 (fun j=>Au [((xs.length:Int),1)] (j:Int)*C9 ((xs++[q]).getD j []) y) (xs.length+1)=A1 (fun j=>(if j=xs.length then 1 else 0)*C9 ((xs++[q]).getD j []) y) (xs.length+1):=Bb fun j _=>by
     rw[gH];by_cases h:j=xs.length
     . rw[if_pos h,if_pos (by omega)]
     . rw[if_neg h,if_neg (by omega)]
    rw[e2,Kc,if_pos (by omega),Qt]
   have VN:nd (bA [] q 1):=Wj (ms:=[]) (by simp[nd]) q 1 q.length
   have g:Au (bA [] q 1) y=C9 q y:=by
    have:=f7 [] q 1 y q.length;rw[U8,Int.zero_add,Int.mul_one]at this;exact this
   rw[e,Il VN,g];exact AU _ _
theorem Lz.step{i:Nat}{n:Int}{s e:Ms}(hp:2<=p)(h:Lz p xs q ms me)(g:E4 p xs es ss bs)(sh:D7 p xs es ss)(hs:ss[i]?=some s)(he:es[i]?=some e)(o1:Q9 p ms)(o2:Q9 p me)(hl:(xs.getD i []).length-1=q.length-1) :
 Lz p xs q (modI p (C6 ms (Bg n s))) (modI p (C6 me (Bg n e))):=by
 have hil:i<xs.length:=by rw[←g.ls];exact(List.getElem?_eq_some_iff.mp hs).1
 obtain⟨oS,kS⟩:=g.sok i s hs;obtain⟨oE,kE⟩:=g.eok i e he;obtain⟨n1,_,_,g1⟩:=Kn (Bg n s) ms o1.nd o1.nz (P3 oS.nd);obtain⟨n2,_,_,g2⟩:=Kn (Bg n e) me o2.nd o2.nz (P3 oE.nd);have c1:=(g9 (p:=p) (n:=n) (by omega) o1 oS).2;have s0:Au s (xs.length:Int)=0:=Ci fun hk=>by have:=kS _ hk;omega
 refine⟨?_,fun x hx=>?_,fun y=>?_⟩
 . rw[Il n1,g1,Jz,h.own,s0,Int.mul_zero,Int.add_zero];exact Int.emod_eq_of_lt (by decide) (by omega)
 . rcases c1 x hx with z | z
   . exact h.lev x z
   . have k1:=kS x z;have l1:=sh.lev i s hs x z;exact .inr ⟨by omega,by omega⟩
 . have a1:=h.bd y;have a2:=sh.bd i s e hs he y
   have e0:A1 (fun j=>Au s (j:Int)*C9 ((xs++[q]).getD j []) y) (xs.length+1)=A1 (fun j=>Au s (j:Int)*C9 (xs.getD j []) y) xs.length:=by
    show A1 _ xs.length+Au s (xs.length:Int)*_=_;rw[s0,Int.zero_mul,Int.add_zero];exact Bb fun j hj=>by rw[B8 hj]
   have e1:p∣A1 (fun j=>(Au ms (j:Int)+n*Au s (j:Int))*C9 ((xs++[q]).getD j []) y) (xs.length+1)-A1 (fun j=>Au (modI p (C6 ms (Bg n s))) (j:Int)*C9 ((xs++[q]).getD j []) y) (xs.length+1):=Ib fun j _=>by
    rw[←Int.sub_mul,Il n1,g1,Jz];exact Int.dvd_trans (AU _ _) (Int.dvd_mul_right ..)
   have e2:A1 (fun j=>(Au ms (j:Int)+n*Au s (j:Int))*C9 ((xs++[q]).getD j []) y) (xs.length+1)=A1 (fun j=>Au ms (j:Int)*C9 ((xs++[q]).getD j []) y) (xs.length+1)+n*A1 (fun j=>Au s (j:Int)*C9 (xs.getD j []) y) xs.length:=by
    rw[←e0,←Gm,←Mf];exact Bb fun j _=>by rw[Int.add_mul,Int.mul_assoc]
   rw[e2]at e1
   have e3:p∣(Au me y+n*Au e y)-Au (modI p (C6 me (Bg n e))) y:=by
    rw[Il n2,g2,Jz];exact AU _ _
   generalize A1 (fun j=>Au (modI p (C6 ms (Bg n s))) (j:Int)*C9 ((xs++[q]).getD j []) y) (xs.length+1)=A at e1 ⊢;generalize A1 (fun j=>Au ms (j:Int)*C9 ((xs++[q]).getD j []) y) (xs.length+1)=B at a1 e1;generalize A1 (fun j=>Au s (j:Int)*C9 (xs.getD j []) y) xs.length=C at a2 e1;generalize Au (modI p (C6 me (Bg n e))) y=E at e3 ⊢;have a3:p∣n*(C-Au e y):=Int.dvd_trans a2 (Int.dvd_mul_left ..);rw[Int.mul_sub]at a3;have t:=Int.dvd_add (Int.dvd_add (Int.dvd_sub (Int.dvd_add a1 a3) (Int.dvd_refl p)) (Int.dvd_refl p)) e3;have t2:=Int.dvd_sub t e1;have:B-Au me y+(n*C-n*Au e y)-p+p+(Au me y+n*Au e y-E)-(B+n*C-A)=A-E:=by omega
   rw[this]at t2;exact t2
theorem D7.nil:D7 p [] [] []:=⟨fun i s h=>by simp at h,fun i s h=>by simp at h,fun i s e h=>by simp at h⟩
theorem D7.grow(g:E4 p xs es ss bs)(sh:D7 p xs es ss)(h:Lz p xs q ms me):D7 p (xs++[q]) (es++[me]) (ss++[ms]):=by
 refine⟨fun i s hs=>?_,fun i s hs x hx=>?_,fun i s e hs he y=>?_⟩
 . rcases Cv hs with⟨_,hs⟩|⟨rfl,rfl⟩
   . exact sh.own i s hs
   . rw[g.ls];exact h.own
 . rcases Cv hs with⟨hl,hs⟩|⟨rfl,rfl⟩
   . rw[g.ls]at hl;have k1:=(g.sok i s hs).2 x hx;rw[B8 (by omega),B8 hl];exact sh.lev i s hs x hx
   . rw[g.ls,Qt];rcases h.lev x hx with z|⟨z1,z2⟩
     . subst z;rw[show((xs.length:Nat):Int).toNat=xs.length by omega,Qt]
     . by_cases h0:x<0
       . rw[show x.toNat=0 by omega]at z2 ⊢;by_cases KH:0<xs.length
         . rw[B8 KH];exact z2
         . have:xs=[]:=List.length_eq_zero_iff.mp (by omega);subst this;rfl
       . rw[B8 (by omega)];exact z2
 . rw[List.length_append,show xs.length+[q].length=xs.length+1 from rfl];rcases Cv hs with⟨hl,hs⟩|⟨hl,rfl⟩
   . rcases Cv he with⟨_,he⟩|⟨hl2,_⟩
     . have s0:Au s (xs.length:Int)=0:=Ci fun hk=>by have:=(g.sok i s hs).2 _ hk;rw[g.ls]at hl;omega
       have e0:A1 (fun j=>Au s (j:Int)*C9 ((xs++[q]).getD j []) y) (xs.length+1)=A1 (fun j=>Au s (j:Int)*C9 (xs.getD j []) y) xs.length:=by
        show A1 _ xs.length+Au s (xs.length:Int)*_=_;rw[s0,Int.zero_mul,Int.add_zero];exact Bb fun j hj=>by rw[B8 hj]
       rw[e0];exact sh.bd i s e hs he y
     . rw[g.ls]at hl;rw[g.le]at hl2;omega
   . rcases Cv he with⟨hl2,_⟩|⟨_,rfl⟩
     . rw[g.ls]at hl;rw[g.le]at hl2;omega
     . exact h.bd y
theorem D7.back(g:E4 p (xs++[q]) (es++[me]) (ss++[ms]) bs)(sh:D7 p (xs++[q]) (es++[me]) (ss++[ms])):D7 p xs es ss:=by
 have ls:=g.ls;have le:=g.le;simp at ls le;have up:∀{l:List Ms}{m x:Ms}{i:Nat},l[i]?=some x->(l++[m])[i]?=some x:=fun {l m x i} h=>by rw[List.getElem?_append_left (List.getElem?_eq_some_iff.mp h).1];exact h
 refine⟨fun i s hs=>sh.own i s (up hs),fun i s hs x hx=>?_,fun i s e hs he y=>?_⟩
 . have hl:i<xs.length:=by rw[←ls];exact(List.getElem?_eq_some_iff.mp hs).1
   have k1:=(g.sok i s (up hs)).2 x hx;have:=sh.lev i s (up hs) x hx;rw[B8 (by omega),B8 hl]at this;exact this
 . have hl:i<xs.length:=by rw[←ls];exact(List.getElem?_eq_some_iff.mp hs).1
   have:=sh.bd i s e (up hs) (up he) y;rw[List.length_append,show xs.length+[q].length=xs.length+1 from rfl]at this;have s0:Au s (xs.length:Int)=0:=Ci fun hk=>by have:=(g.sok i s (up hs)).2 _ hk;omega
   have e0:A1 (fun j=>Au s (j:Int)*C9 ((xs++[q]).getD j []) y) (xs.length+1)=A1 (fun j=>Au s (j:Int)*C9 (xs.getD j []) y) xs.length:=by
    show A1 _ xs.length+Au s (xs.length:Int)*_=_;rw[s0,Int.zero_mul,Int.add_zero];exact Bb fun j hj=>by rw[B8 hj]
   rw[e0]at this;exact this
end
end Hb
namespace L2
open PySem PySem.Spec PyProof.Rows
section
variable{prog:Program}{w:World}{A:Around}{R:Result->Shared->Prop}
theorem iV{d:Value}{I S:Addr}{fp:List Addr}{n:Nat}{P:Nat->Value->Prop}{St:Nat->Heap->Prop}(W:Walks prog w A.in1 I fp [I] n P St)(hSf:S ∉ fp)(hSI:S≠I)(ks:List Int)(hn:ks.length=n)(hP:∀i v,P i v->∃x t,ks[i]?=some x/\v=.int x t) :
 ∀(k i:Nat) (s:Shared) (c:Nat) (best:Array Value),n-i=k->i<=n->St i s.heap->s.heap.get? S=some { cls:=.type "list",dict:=none,data:=.seq best c,slots:=#[] } →
 ((i=0/\best=#[])\/∃m t,best=#[.int m t,.int m t]/\0<i/\m∈ks.take i/\∀x∈ks.take i,x<=m) →
 (∀v h' tk,((n=0/\v=d)\/∃m t,v=.int m t/\m∈ks/\∀x∈ks,x<=m)->(∀b o,b≠I->b≠S->s.heap.get? b=some o->h'.get? b=some o)->R (.ok (.ret v)) { s with heap:=h',toks:=tk }) →
 codeAny (model prog w) A (.builtin "max.loop" ⟨[.ref I,.none,.ref S],[(Str.ofString "default",d)]⟩) R s:=by
 have hname:(toString "max"++toString ".loop":String)="max.loop":=by decide
 intro k
 induction k with
 | zero =>
   intro i s c best hk hi hst hS hb hR;have hin:i=n:=by omega
   subst hin;refine codeAny_builtin PySem.F.entry_max_loop ?_;rw[Around.under_plainId PySem.F.plain_max_loop _];show wpAny _ A.in1 (seqItems? (.ref S)>>=_) _ _ s;refine wpAny_bind (wpAny_seqItems hS rfl ?_);show wpAny _ A.in1 (tryCatch (pyNext (.ref I)) _>>=_) _ _ s;skip;refine wpAny_bind (wpAny_tryCatch (W.done s _ _ hst fun h' tk hk'=>?_));have hS':=hk' S _ (by simpa using hSI) hS;rcases hb with⟨h0,rfl⟩|⟨m,t,rfl,_,hm1,hm2⟩
   . refine wpAny_bind (wpAny_rule (wpAny_pure ?_));exact hR d h' tk (.inl ⟨h0,rfl⟩) fun b o Sx _ e=>hk' b o (by simpa using Sx) e
   . show wpAny _ A.in1 (updateSeq S (fun _=>#[])>>=_) _ _ _;refine wpAny_bind ?_;refine wpAny_updateSeq hS' rfl (wpAny_bind (wpAny_letGo (wpAny_pure ?_)));rw[←hn,List.take_length]at hm1 hm2;exact hR _ _ tk (.inr ⟨m,t,rfl,hm1,hm2⟩) fun b o Sx Wz e=>(Heap.get?_update_other _ _ (Ne.symm Wz)).trans (hk' b o (by simpa using Sx) e)
 | succ k ih =>
   intro i s c best hk hi hst hS hb hR;have hlt:i<n:=by omega
   refine codeAny_builtin PySem.F.entry_max_loop ?_;rw[Around.under_plainId PySem.F.plain_max_loop _];show wpAny _ A.in1 (seqItems? (.ref S)>>=_) _ _ s;refine wpAny_bind (wpAny_seqItems hS rfl ?_);show wpAny _ A.in1 (tryCatch (pyNext (.ref I)) _>>=_) _ _ s;skip;refine wpAny_bind (wpAny_tryCatch (W.item i s _ _ hlt hst fun v h' tk hPv mT hk'=>?_));have hS':=hk' S _ (by simpa using hSI) hS;obtain⟨n1,t1,hx,rfl⟩:=hP i v hPv;have htk:ks.take (i+1)=ks.take i++[n1]:=by rw[List.take_succ,hx];rfl
   have uN:∀f:Array Value->Array Value,St (i+1) (h'.update S (Obj.mapSeq f)):=fun f=>W.frame _ _ _ mT fun b hb o e=>(Heap.get?_update_other _ _ (fun z:S=b=>hSf (by rw[z];exact hb))).trans e;have old:∀(f:Array Value->Array Value) (b:Addr) (o:Obj),b≠I->b≠S->s.heap.get? b=some o->(h'.update S (Obj.mapSeq f)).get? b=some o:=fun f b o Sx Wz e=>(Heap.get?_update_other _ _ (Ne.symm Wz)).trans (hk' b o (by simpa using Sx) e);rcases hb with⟨h0,rfl⟩|⟨n2,t2,rfl,hi0,hm1,hm2⟩
   . show wpAny _ A.in1 (updateSeq S (fun _=>#[.int n1 t1,.int n1 t1])>>=_) _ _ _;refine wpAny_bind ?_;refine wpAny_updateSeq hS' rfl ?_;rw[hname];subst h0;refine wpAny_pure ⟨plainId_quiet PySem.F.plain_max_loop _,ih 1 _ _ #[.int n1 t1,.int n1 t1] (by omega) hlt (uN _) (Heap.get?_update_self _ hS' rfl) (.inr ⟨n1,t1,rfl,by omega,by rw[htk];simp,fun x hx'=>?_⟩) fun v'' h'' tk' a1 kk=>?_⟩
     . rw[htk]at hx';simp at hx';omega
     . exact hR v'' h'' tk' a1 fun b o Sx Wz e=>kk b o Sx Wz (old _ b o Sx Wz e)
   . show wpAny _ A.in1 (tryCatch (holding [.int n1 t1,.int n1 t1] (richCompare .Gt (.int n1 t1) (.int n2 t2)>>=_)) _>>=_) _ _ _;refine wpAny_bind (wpAny_tryCatch (wpAny_holding (wpAny_bind (CmpOf.ints_gt (prog:=prog) (w:=w) (A:=A.in1) (P:=fun i v=>∃t,v=.int (if i=0 then n1 else n2) t) (fun i=>if i=0 then n1 else n2) (fun i v h=>h) 0 1 _ _ _ _ _ ⟨t1,rfl⟩ ⟨t2,rfl⟩ ?_))));refine wpAny_bind (wpAny_holding (wpAny_truthy_bool ?_));refine wpAny_bind (wpAny_letGo (wpAny_pure ?_));split
     . next hgt =>
       have sZ:n2<n1:=by simpa using hgt
       refine wpAny_bind ?_;refine wpAny_updateSeq hS' rfl (wpAny_bind (wpAny_letGo ?_));rw[hname];refine wpAny_pure ⟨plainId_quiet PySem.F.plain_max_loop _,ih (i+1) _ _ #[.int n1 t1,.int n1 t1] (by omega) hlt (uN _) (Heap.get?_update_self _ hS' rfl) (.inr ⟨n1,t1,rfl,by omega,by rw[htk];simp,fun x hx'=>?_⟩) fun v'' h'' tk' a1 kk=>?_⟩
       . rw[htk]at hx';rcases List.mem_append.mp hx' with h1 | h1
         . have:=hm2 x h1;omega
         . simp at h1;omega
       . exact hR v'' h'' tk' a1 fun b o Sx Wz e=>kk b o Sx Wz (old _ b o Sx Wz e)
     . next hgt =>
       have sZ:n1<=n2:=by simpa using hgt
       refine wpAny_bind (wpAny_letGo ?_);rw[hname];refine wpAny_pure ⟨plainId_quiet PySem.F.plain_max_loop _,ih (i+1) _ _ #[.int n2 t2,.int n2 t2] (by omega) hlt mT hS' (.inr ⟨n2,t2,rfl,by omega,by rw[htk];simp[hm1],fun x hx'=>?_⟩) fun v'' h'' tk' a1 kk=>?_⟩
       . rw[htk]at hx';rcases List.mem_append.mp hx' with h1 | h1
         . exact hm2 x h1
         . simp at h1;omega
       . exact hR v'' h'' tk' a1 fun b o Sx Wz e=>kk b o Sx Wz (hk' b o (by simpa using Sx) e)
theorem yZ{ks:List Int}{l:Addr}{d:Value}{items:Array Value}{s:Shared}{E:Value->Shared->Prop}{Q:Value->Shared->Prop}(hh:A.handled=none)(hls:s.heap.IsList l items)(hks:ks.length=items.size)(hint:∀(i:Nat) (v:Value),items.toList[i]?=some v->∃(n:Int) (t:Nat),ks[i]?=some n/\v=Value.int n t)
 (hQ:∀v h' tk,((items.size=0/\v=d)\/∃m t,v=.int m t/\m∈ks/\∀x∈ks,x<=m)->(∀b o,s.heap.get? b=some o->h'.get? b=some o)->Q v { s with heap:=h',toks:=tk }) :
 wpAny (model prog w) A (call (.builtin "max") [.ref l] [(Str.ofString "default",d)]) Q E s:=by
 have hname:(toString "max"++toString ".loop":String)="max.loop":=by decide
 obtain⟨ol,hol,_⟩:=id hls;have VY:l<s.heap.objs.size:=Heap.lt_size hol;refine PyProof.Rows.kmk_tree PySem.F.kind_max PySem.F.plain_max PySem.F.entry_max (jY _ _) ?_;show wpAny _ A.in1 (Builtin.Builtins.bindParams "max" ["key","default"] 0 ⟨[],[(Str.ofString "default",d)]⟩>>=_) _ _ s;refine wpAny_bind (wpAny_of_eq (show Builtin.Builtins.bindParams "max" ["key","default"] 0 ⟨[],[(Str.ofString "default",d)]⟩=pure [none,some d] from rfl) ?_);refine wpAny_bind (wpAny_pure ?_);refine wpAny_bind (wpAny_pyIter_list hls ?_);refine wpAny_bind (wpAny_newList ?_ (Nat.zero_le _));rw[hname];have hS:(s.heap.push { cls:=.type "list_iterator",data:=.fields #[.ref l,.int 0 0] }).objs.size=s.heap.objs.size+1:=Heap.size_push ..;have hSz:(s.heap.objs.size+1:Nat)≠s.heap.objs.size:=Nat.succ_ne_self _;have hSl:(s.heap.objs.size+1:Nat)≠l:=Nat.ne_of_gt (Nat.lt_succ_of_lt VY);refine wpAny_pure ⟨plainId_quiet PySem.F.plain_max_loop _,?_⟩;have W:=Walks.list (prog:=prog) (w:=w) (A:=A.in1) hh s.heap.objs.size l (Nat.ne_of_lt VY) items;refine iV (I:=s.heap.objs.size) (S:=(s.heap.push { cls:=.type "list_iterator",data:=.fields #[.ref l,.int 0 0] }).objs.size) W ?_ (by rw[hS];exact hSz) ks hks (fun i v hv=>hint i v (by simpa using hv)) _ 0 _ _ #[] rfl (Nat.zero_le _) ?_ (Heap.get?_push_size _ rfl) (.inl ⟨rfl,rfl⟩) fun v h' tk hv kk=>?_
 . rw[hS];simp;exact hSl
 . exact⟨⟨_,Heap.get?_push_of_some _ (Heap.get?_push_size _ rfl),rfl,rfl⟩,(hls.push _).push _⟩
 . refine hQ v h' tk hv fun b o e=>?_;have hb:=Heap.lt_size e;exact kk b o (Nat.ne_of_lt hb) (by rw[hS];exact Nat.ne_of_lt (Nat.lt_succ_of_lt hb)) (Heap.get?_push_of_some _ (Heap.get?_push_of_some _ e))
end
def tMaxG(K:W.Frag)(ta:TA)(td:TE):TE:=fun σ H Q=>ta σ H fun xs H1=>td σ H1 fun y H2=>∃(a:Addr) (ns:List Int) (i:Int),xs=[.ref a]/\SqL K H2 a (ns.map V.int)/\y=.int i/\∀m,((ns=[]/\m=i)\/(m∈ns/\∀x∈ns,x<=m))->Q (.int m) H2
theorem pA{X:Cx}{K:W.Frag}{e d:Expr}{ta:TA}{td:TE}{p kp pos:Pos}(hc:X.calm=true)(hg:Gl X "max")(hm:X.mg "max"=none)(ha:PA X [e] ta)(hd:PE X d td)(hK:X.K=K:=by rfl)
 (he:backTo pos (starEach (e::[]) X.env)=(false,eval e X.env)::backTo pos (starEach [] X.env):=by rfl)
 (hplain:(backTo pos (starEach (e::[]) X.env)).any (·.1)=false:=by rfl) :
 PE X (.Call (.Name "max" p) [e] [⟨some "default",d,kp⟩] pos) (tMaxG K ta td):=by
 subst hK;intro Ac s σ H Q I h;refine wpAny_Call_Name_kw (Ja I hg hm Fm ?_);refine callWith_kw (Bu (ha pos Ac s σ H _ I h) fun us s1 ⟨vs,H1,I1,r1,q1⟩=>?_) he hplain;refine kws_cons (Bu (hd Ac s1 σ H1 _ I1 q1) fun v s2 ⟨y,H2,I2,r2,q2⟩=>kws_nil ?_);obtain⟨a,ns,i,rfl,hq,rfl,q⟩:=q2;obtain⟨u,rfl,ru⟩:=Md r1;cases ru;obtain⟨t,rfl⟩:=r2;obtain⟨its,rv,ht,_⟩:=I2.list hq;have hl:=rv.length;rw[List.length_map]at hl;refine yZ (ks:=ns) (I2.ok.hd hc) ht.isList (by simpa using hl) (fun j v hv=>?_) fun v h' tk hv kk=>?_
 . have hv:its[j]?=some v:=by simpa using hv
   have hjl:j<ns.length:=by
    have h1:=(List.getElem?_eq_some_iff.mp hv).1;omega
   obtain⟨w',hw,rw'⟩:=rv.get (show(ns.map V.int)[j]?=some (.int ns[j]) by rw[List.getElem?_map,List.getElem?_eq_getElem hjl];rfl);rw[hv]at hw;cases hw;obtain⟨t',e'⟩:=rw';exact⟨ns[j],t',List.getElem?_eq_getElem hjl,e'⟩
 . rcases hv with⟨h0,rfl⟩|⟨m,t',rfl,hm1,hm2⟩
   . exact⟨.int i,H2,I2.kept kk,⟨_,rfl⟩,q i (.inl ⟨List.length_eq_zero_iff.mp (by rw[hl];simpa using h0),rfl⟩)⟩
   . exact⟨.int m,H2,I2.kept kk,⟨_,rfl⟩,q m (.inr ⟨hm1,hm2⟩)⟩
def OO(td:TE):TE:=fun σ H Q=>td σ H fun x H1=>∃(a:Addr) (kvs:List (Key × V)),x=.ref a/\H1 a=some (.dK kvs)/\Q .non (upd H1 a (.dK []))
theorem IE{X:Cx}{o:Expr}{td:TE}{apos cpos:Pos}(ho:PE X o td)(hbase:attributeBase o "clear" X.env (eval o X.env)=eval o X.env:=by rfl)(hline:(apos.endLine==cpos.line)=true:=by rfl):PE X (.Call (.Attribute o "clear" apos) [] [] cpos) (OO td):=by
 intro Ac s σ H Q I h;refine wpAny_Call_method0_late hbase hline (Bu (ho Ac s σ H _ I h) fun v s1 ⟨x,H1,I1,r1,a,kvs,ex,ha,q1⟩=>?_);subst ex;obtain rfl:v=Value.ref a:=r1;obtain⟨t1,t2,_⟩:=Ww I1 (.inl ⟨kvs,.inl ha⟩);exact⟨"dict","dict.clear",PySem.F.plainAttrs_dict,PySem.F.slot_dict_clear,PySem.F.type_dict_clear,t1,t2,Calls.callWith_builtin rfl (PySem.evalArgs_none (QD I1 ha fun s' I'=>⟨.non,_,I',rfl,q1⟩))⟩
end L2
namespace Hb
open PySem L2
def Bf(es:List Ms)(n:Nat):List Nat:=(List.range n).filter fun i=>(es.getD i []).isEmpty
theorem Xx(es:List Ms)(n:Nat):Bf es (n+1)=if es.getD n []=[] then Bf es n++[n] else Bf es n:=by
 unfold Bf;rw[List.range_succ,List.filter_append];by_cases h:es.getD n []=[]
 . rw[if_pos h,List.filter_cons_of_pos (by simpa using h)];rfl
 . rw[if_neg h,List.filter_cons_of_neg (by simpa using h)];simp
theorem J8(es:List Ms)(n:Nat):(Bf es n).length<=n:=by
 unfold Bf;have:=List.length_filter_le (fun i=>(es.getD i []).isEmpty) (List.range n);simpa using this
theorem J7{es:List Ms}{n i:Nat}:i∈Bf es n↔i<n/\es.getD i []=[]:=by
 unfold Bf;rw[List.mem_filter,List.mem_range];simp
def Ma(bs:Ms)(i:Int):V:=match lookI bs i with
 | some e=>.int e
 | none=>.non
def Us(bs:Ms)(i:Int):L2.D:=match lookI bs i with
 | some e=>.int e
 | none=>.non
theorem fU{K:W.Frag}{H:Hp}(bs:Ms)(i:Int):Rep K H (Ma bs i) (Us bs i):=by
 unfold Ma Us;cases lookI bs i<;>rfl
theorem GH(bs:Ms)(i:Int):((lookI bs i).map V.int).getD .non=Ma bs i:=by
 unfold Ma;cases lookI bs i<;>rfl
theorem jK{bs cs:Ms}{i:Int}(h:lookI bs i=lookI cs i):Us bs i=Us cs i:=by unfold Us;rw[h]
def B7(bs:Ms)(i:Nat):L2.D:=.tup [.int (i:Int),Us bs (i:Int)]
def F1(es:List Ms)(bs:Ms)(n:Nat):List L2.D:=(Bf es n).map (B7 bs)
abbrev De(es:List Ms)(bs:Ms):List L2.D:=F1 es bs es.length
theorem DX(es:List Ms)(bs:Ms)(n:Nat):(F1 es bs n).length<=n:=by
 unfold F1;rw[List.length_map];exact J8 es n
theorem lQ(bs:Ms)(i:Nat):pT (B7 bs i)=true:=by
 unfold B7 Us;cases lookI bs (i:Int)<;>rfl
theorem Hd(bs:Ms):∀l:List Nat,imms (l.map (B7 bs))=true
 | []=>rfl
 | i::l=>by
   show(pT (B7 bs i)&&imms (l.map (B7 bs)))=true;rw[lQ,Hd bs l];rfl
theorem BQ(bs:Ms)(i:Nat):dep (B7 bs i)<=2:=by
 unfold B7 Us;cases lookI bs (i:Int)<;>simp[dep,deps]
theorem Pb(bs:Ms):∀l:List Nat,deps (l.map (B7 bs))<=2
 | []=>by simp[deps]
 | i::l=>by
   have h1:=BQ bs i;have h2:=Pb bs l;simp only[List.map_cons,deps];omega
def uD(me:Ms)(r:V):Prop:=(me=[]/\r=.non)\/∃b,Nk me b/\r=.int b
def T9:Ms->(Int->Int)->Int
 | [],_=>0
 | q::s,f=>q.2*f q.1+T9 s f
theorem b8(q:Int × Int)(f:Int->Int):∀s:Ms,T9 (s++[q]) f=T9 s f+q.2*f q.1
 | []=>by simp[T9]
 | r::s=>by
   have:=b8 q f s;show r.2*f r.1+T9 (s++[q]) f=r.2*f r.1+T9 s f+_;rw[this];omega
theorem HF{s:Ms}{i:Nat}{q:Int × Int}(f:Int->Int)(h:s[i]?=some q):T9 (s.take (i+1)) f=T9 (s.take i) f+q.2*f q.1:=by
 rw[List.take_succ,h];exact b8 q f _
theorem mY{k v:Int}{s:Ms}(x:Int):Au ((k,v)::s) x=if x=k then v else Au s x:=by
 unfold Au lookI;by_cases h:x=k
 . subst h;simp
 . rw[if_neg h];have:¬k=x:=fun z=>h z.symm;simp[this]
theorem BD(f:Int->Int)(N:Nat):∀s:Ms,nd s->(∀k∈A3 s,0<=k/\k<(N:Int))->T9 s f=A1 (fun j=>Au s (j:Int)*f (j:Int)) N
 | [],_,_=>by
   have:A1 (fun j=>Au [] (j:Int)*f (j:Int)) N=A1 (fun _=>0) N:=Bb fun j _=>by rw[U8,Int.zero_mul]
   rw[this,Nm];rfl
 | (k,v)::s,hn,hk=>by
   have hn2:nd s:=(List.nodup_cons.mp hn).2;have hk1:k ∉ A3 s:=(List.nodup_cons.mp hn).1;obtain⟨k0,kN⟩:=hk k (List.mem_cons_self ..);have ih:=BD f N s hn2 fun k' h'=>hk k' (List.mem_cons_of_mem _ h')
   have e:A1 (fun j=>Au ((k,v)::s) (j:Int)*f (j:Int)) N=A1 (fun j=>(if j=k.toNat then 1 else 0)*(v*f (j:Int))+Au s (j:Int)*f (j:Int)) N:=Bb fun j _=>by
    rw[mY];by_cases h:j=k.toNat
    . rw[if_pos (by omega),if_pos h];have:Au s (j:Int)=0:=by rw[show(j:Int)=k by omega];exact Ci hk1
      rw[this];omega
    . rw[if_neg (by omega),if_neg h];omega
   rw[e,Mf,Kc,if_pos (by omega),←ih,show((k.toNat:Nat):Int)=k by omega];rfl
theorem mX{ms:Ms}{k v x:Int}:Au (O9 ms k v) x=if x=k then v else Au ms x:=by
 unfold Au;rw[Ny];by_cases h:x=k
 . rw[if_pos h,if_pos h];rfl
 . rw[if_neg h,if_neg h]
theorem qB{p:Int}{xs:LLInt}{es ss:List Ms}{bs:Ms}{i:Nat}{s e:Ms}(g:E4 p xs es ss bs)(sh:D7 p xs es ss)(hp:2<=p)(hs:ss[i]?=some s)(he:es[i]?=some e)(x:Int) :
 A1 (fun j=>Au s (j:Int)*C9 (xs.getD j []) x) xs.length%p≠0↔x∈A3 e:=by
 obtain⟨ok,_⟩:=g.eok i e he;have hd:=sh.bd i s e hs he x;rw[←Qs ok.nz]
 have hb:0<=Au e x/\Au e x<p:=by
  by_cases hx:x∈A3 e
  . obtain⟨r,hr,rfl⟩:=List.mem_map.mp hx;have e1:=Jx ok.nd hr;have e2:Au e r.1=r.2:=by unfold Au;rw[e1];rfl
    have:=ok.bd r hr;omega
  . rw[Ci hx];omega
 have:A1 (fun j=>Au s (j:Int)*C9 (xs.getD j []) x) xs.length%p=Au e x:=by
  rw[Int.emod_eq_emod_iff_emod_sub_eq_zero.mpr (Int.emod_eq_zero_of_dvd hd)];exact Int.emod_eq_of_lt hb.1 hb.2
 rw[this]
section
variable(K:W.Frag)(CG:Addr)
def Mg(_K:W.Frag):Sp:=fun vs H Q _=>∃c:Int,vs=[.int c]/\∀(p:Int) (H':Hp),Same H H'->D8 p->p<98->Q (.int p) H'
def Nq:Sp:=fun vs H Q _=>∃(g pc sh ed en:Addr) (p:Int) (xs:LLInt) (es ss:List Ms) (bs s:Ms) (i:Nat),vs=[.ref g,.int (i:Int)]/\Bt K CG H g pc sh ed en p xs es ss bs/\ss[i]?=some s/\newC H s Q
def Nr:Sp:=fun vs H Q _=>∃(g pc sh ed en:Addr) (p:Int) (xs:LLInt) (es ss:List Ms) (bs:Ms),vs=[.ref g]/\Bt K CG H g pc sh ed en p xs es ss bs ∧
 ∀(l:Addr) (us:List V) (H':Hp),H l=none->Same H H'->H' l=some (.lst us)->Reps K H' us (De es bs)->Q (.ref l) H'
def Vi:Sp:=fun vs H Q _=>∃(a d:Addr) (xs:LLInt) (s:Ms) (p:Int),vs=[.ref a,.ref d,.int p]/\LT K H (.ref a) xs/\(∀x∈xs,x.length<=4)/\H d=some (.dK (cK s))/\Q9 p s/\(∀x∈A3 s,0<=x/\x<(xs.length:Int))/\s.length<=1000/\0<p/\p<98 ∧
 ∀(l:Addr) (ks:List Int) (H':Hp),H l=none->Same H H'->H' l=some (.lst (ks.map V.int))->(∀x,x∈ks↔A1 (fun j=>Au s (j:Int)*C9 (xs.getD j []) x) xs.length%p≠0)->Q (.ref l) H'
def Mh:Sp:=fun vs H Q _=>∃(a d:Addr) (xs:LLInt) (s:Ms) (p:Int) (i:Nat),vs=[.ref a,.ref d,.int (i:Int),.int p]/\LT K H (.ref a) xs/\H d=some (.dK (cK s))/\Q9 p s/\(∀x∈A3 s,0<=x/\x<=(i:Int)/\(xs.getD x.toNat []).length-1=(xs.getD i []).length-1)/\i<xs.length/\Au s (i:Int)=1/\s.length<=1000 ∧
 ∀H',Same H H'->Q (.bl true) H'
def Uz:Sp:=fun vs H Q _=>∃(g pc sh ed en a:Addr) (p:Int) (xs:LLInt) (es ss:List Ms) (bs:Ms),vs=[.ref g,.ref a,.int p]/\Bt K CG H g pc sh ed en p xs es ss bs/\D7 p xs es ss/\LT K H (.ref a) xs ∧
 ∀(l:Addr) (us:List V) (H':Hp),H l=none->Same H H'->H' l=some (.lst us)->Reps K H' us (De es bs)->Q (.ref l) H'
def Ke:Sp:=fun vs H Q _=>∃(a b:Addr) (es:List Ms) (bs:Ms),vs=[.ref a,.ref b]/\Rep K H (.ref a) (.lst (De es bs))/\Rep K H (.ref b) (.lst (De es bs))/\∀H',Same H H'->Q (.bl true) H'
end
end Hb
namespace L2
open PySem PySem.Spec PyProof.Rows PySem.W
section
variable{P:Program}{w:World}{K:Frag}{mg:Str->Option Value}{base:Heap}{ds:List Value}
end
section
variable{X:Cx}{J:XJ}{j k:Nat}{C:Addr}{ps:List Str}{dvs:List V}{sp:Sp}{m x:Str}{p pos apos:Pos}{e o:Expr}{es:List Expr}{ta:TE}{t:TA}
end
end L2
namespace Hb
open PySem L2
theorem Vv{K:W.Frag}{H:Hp}{v:V}{bs:Ms}{j:Nat}(h:Rep K H v (B7 bs j)):∃t,v=.ref t/\Dw K H t [.int (j:Int),Ma bs (j:Int)]:=by
 obtain⟨au,vs,rfl,uE,rv⟩:=h;obtain⟨v1,vs1,rfl,r1,rv⟩:=rv;obtain⟨v2,YD,rfl,r2,rv⟩:=rv;obtain rfl:YD=[]:=rv;obtain rfl:v1=.int (j:Int):=r1;refine⟨au,rfl,?_⟩
 have:v2=Ma bs (j:Int):=by
  unfold Us at r2;unfold Ma;cases hl:lookI bs (j:Int) with
  | none=>rw[hl]at r2;exact r2
  | some e=>rw[hl]at r2;exact r2
 rw[←this];exact uE
section
variable(K:W.Frag)
end
def aliveB(bs:Ms)(st:Int)(i:Nat):Bool:=decide ((i:Int)<st)&&(match lookI bs (i:Int) with
 | some e=>decide (st<=e)
 | none=>true)
def Iy(xs:LLInt)(k:Int)(i:Nat):Bool:=decide (Bq (xs.getD i []).length=k)
def Pz(xs:LLInt)(es:List Ms)(bs:Ms)(k st:Int):Nat:=((Bf es es.length).filter fun i=>Iy xs k i&&aliveB bs st i).length
section
variable(K:W.Frag)(CG:Addr)
def Rl:Sp:=fun vs H Q _=>∃(t:Addr) (bs:Ms) (j:Nat) (st:Int),vs=[.ref t,.int st]/\Dw K H t [.int (j:Int),Ma bs (j:Int)]/\Q (.bl (aliveB bs st j)) H
end
structure Bl(K:W.Frag)(CG:Addr)(H:Hp)(Z:Addr->Prop)(g pc sh ed en:Addr)(p:Int)(xs:LLInt)(es ss:List Ms)(bs:Ms):Prop where
 at_:Bt K CG H g pc sh ed en p xs es ss bs
 sht:D7 p xs es ss
 zen:Z en
 zin:∀c,Z c->H c≠none
 ze:∀ds:List Addr,H ed=some (.lst (ds.map V.ref))->∀d∈ds,¬Z d
 zs:∀ds:List Addr,H sh=some (.lst (ds.map V.ref))->∀d∈ds,¬Z d
theorem Ez:∀{l m:List Addr},l.map V.ref=m.map V.ref->l=m
 | [],[],_=>rfl
 | [],_::_,h=>by cases h
 | _::_,[],h=>by cases h
 | a::l,b::m,h=>by
   obtain⟨h1,h2⟩:=List.cons.inj h;rw[V.ref.inj h1,Ez h2]
section
variable{K:W.Frag}{CG:Addr}{H H':Hp}{Z:Addr->Prop}{g pc sh ed en:Addr}{p:Int}{xs:LLInt}{es ss:List Ms}{bs:Ms}
theorem Bl.same(x:Bl K CG H Z g pc sh ed en p xs es ss bs)(s:Same H H'):Bl K CG H' Z g pc sh ed en p xs es ss bs:=by
 obtain⟨ds,hd,_⟩:=x.at_.eds.ex;obtain⟨cs,hc,_⟩:=x.at_.shs.ex;refine⟨x.at_.same s,x.sht,x.zen,fun c z=>?_,fun ds' h=>?_,fun ds' h=>?_⟩
 . have:=x.zin c z;cases e:H c with
   | none=>exact absurd e this
   | some o=>rw[s _ _ e];intro q;cases q
 . rw[s _ _ hd]at h;have:ds.map V.ref=ds'.map V.ref:=HO.lst.inj (Option.some.inj h);rw[←Ez this];exact x.ze ds hd
 . rw[s _ _ hc]at h;have:cs.map V.ref=ds'.map V.ref:=HO.lst.inj (Option.some.inj h);rw[←Ez this];exact x.zs cs hc
theorem Bl.first(x:Bt K CG H g pc sh ed en p [] [] [] [])(zen:Z en)(zin:∀c,Z c->H c≠none):Bl K CG H Z g pc sh ed en p [] [] [] []:=by
 obtain⟨ds,hd,dl,_⟩:=x.eds.ex;obtain⟨cs,hc,cl,_⟩:=x.shs.ex;refine⟨x,D7.nil,zen,zin,fun ds' h d hd'=>?_,fun ds' h d hd'=>?_⟩
 . rw[hd]at h;have:ds.map V.ref=ds'.map V.ref:=HO.lst.inj (Option.some.inj h);rw[←Ez this,List.length_eq_zero_iff.mp dl]at hd';cases hd'
 . rw[hc]at h;have:cs.map V.ref=ds'.map V.ref:=HO.lst.inj (Option.some.inj h);rw[←Ez this,List.length_eq_zero_iff.mp cl]at hd';cases hd'
theorem Bl.after{xs':LLInt}{es' ss':List Ms}{bs':Ms}{ds cs:List Addr}(x:Bl K CG H Z g pc sh ed en p xs es ss bs)(fr:Hz pc sh ed en H H')(w:Bt K CG H' g pc sh ed en p xs' es' ss' bs')(st:D7 p xs' es' ss')
 (hd:H' ed=some (.lst (ds.map V.ref))) (hc:H' sh=some (.lst (cs.map V.ref))) (nd':∀d∈ds,¬Z d) (nc:∀c∈cs,¬Z c):Bl K CG H' Z g pc sh ed en p xs' es' ss' bs':=by
 refine⟨w,st,x.zen,fun c z=>?_,fun ds' h=>?_,fun ds' h=>?_⟩
 . by_cases hw:W4 pc sh ed en c
   . exact(w.mut c hw).there
   . cases e:H c with
     | none=>exact absurd e (x.zin c z)
     | some o=>rw[fr _ _ hw e];intro q;cases q
 . rw[hd]at h;have:ds.map V.ref=ds'.map V.ref:=HO.lst.inj (Option.some.inj h);rw[←Ez this];exact nd'
 . rw[hc]at h;have:cs.map V.ref=ds'.map V.ref:=HO.lst.inj (Option.some.inj h);rw[←Ez this];exact nc
end
section
variable(K:W.Frag)(CG:Addr)
def Mi:Sp:=fun vs H Q _=>∃(g pc sh ed en s e:Addr) (Z:Addr->Prop) (p:Int) (xs:LLInt) (es ss:List Ms) (bs ms me:Ms) (l:Nat) (pq:List Int),vs=[.ref g,.ref s,.ref e]/\Bt K CG H g pc sh ed en p xs es ss bs/\H s=some (.dK (cK ms))/\H e=some (.dK (cK me))/\(∀c,Z c->H c≠none)/\¬Z s/\¬Z e/\Q9 p ms/\Q9 p me ∧
 (∀x∈A3 ms,0<=x/\x<=(xs.length:Int))/\(∀x∈A3 me,0<=x/\x<(xs.length:Int)/\(xs.getD x.toNat []).length-1+1=l)/\D7 p xs es ss/\Lz p xs pq ms me/\l=pq.length-1 ∧
 ∀(t s' e':Addr) (ms' E6:Ms) (H':Hp),Same H H'->H' t=some (.tup [.ref s',.ref e'])->H' s'=some (.dK (cK ms'))->H' e'=some (.dK (cK E6))->¬Z s'->¬Z e'->Q9 p ms'->Q9 p E6->(∀x∈A3 ms',0<=x/\x<=(xs.length:Int)) →
   (∀x∈A3 E6,0<=x/\x<(xs.length:Int)/\(xs.getD x.toNat []).length-1+1=l)->(∀b,Nk E6 b->lookI bs b=none)->Lz p xs pq ms' E6->Q (.ref t) H'
def spZ_grow(CP CS:Addr):Sp:=fun vs H Q E=>∃(g pc sh ed en:Addr) (Z:Addr->Prop) (v:V) (e:DE) (p:Int) (xs:LLInt) (es ss:List Ms) (bs:Ms),vs=[.ref g,v]/\Bl K CG H Z g pc sh ed en p xs es ss bs/\FO K H v e ∧
 (¬E7 xs e=true->∀(d:Addr) (H':Hp),Same H H'->H' d=some (.xd [("place",.int (xs.length:Int))])->E (.ref CP) (some d) H') ∧
 (E7 xs e=true->xs.length=40->∀H',Same H H'->E (.ref CS) none H') ∧
 (∀q,e=.d (tI q)->E7 xs e=true->xs.length<40->∀(r:V) (me ms bs':Ms) (H':Hp),Hz pc sh ed en H H'->Bl K CG H' Z g pc sh ed en p (xs++[q]) (es++[me]) (ss++[ms]) bs'->uD me r->Q r H')
def Ki:Sp:=fun vs H Q _=>∃(g pc sh ed en:Addr) (Z:Addr->Prop) (v:V) (p:Int) (xs:LLInt) (q:List Int) (es ss:List Ms) (bs:Ms),vs=[.ref g,v]/\Bl K CG H Z g pc sh ed en p xs es ss bs/\TI K H v q/\Cj xs (tI q)=true/\xs.length<40 ∧
 ∀(r:V) (me ms bs':Ms) (H':Hp),Hz pc sh ed en H H'->Bl K CG H' Z g pc sh ed en p (xs++[q]) (es++[me]) (ss++[ms]) bs'->uD me r->Q r H'
def Vk:Sp:=fun vs H Q _=>∃(g pc sh ed en:Addr) (Z:Addr->Prop) (p:Int) (xs:LLInt) (q:List Int) (es ss:List Ms) (bs:Ms),vs=[.ref g]/\Bl K CG H Z g pc sh ed en p (xs++[q]) es ss bs ∧
 ∀(v:V) (es' ss':List Ms) (bs':Ms) (H':Hp),Hz pc sh ed en H H'->Bl K CG H' Z g pc sh ed en p xs es' ss' bs'->TI K H' v q->Q v H'
abbrev sp_Growth_growOkZ:Sp:=Ki K CG
end
theorem growZ_down{K:W.Frag}{CG CP CS:Addr}:∀vs H Q E,sp_Growth_growOkZ K CG vs H Q E->spZ_grow K CG CP CS vs H Q (fun _ _ _=>False):=by
 rintro vs H Q E ⟨g,pc,sh,ed,en,Z,v,p,xs,q,es,ss,bs,rfl,x,hv,hf,hn,k⟩;refine⟨g,pc,sh,ed,en,Z,v,.d (tI q),p,xs,es,ss,bs,rfl,x,hv,fun z=>absurd hf z,fun _ z=>by omega,fun q' e _ _=>?_⟩
 have hq:q=q':=by
  have:tI q=tI q':=DE.d.inj e;have h2:Cb q=Cb q':=L2.D.tup.inj this;rw[←aA q,h2,aA]
 subst hq;exact k
end Hb
namespace L2
open PySem PySem.Spec PyProof.Rows PySem.W
structure OD(P:Program)(w:World)(K:Frag)(mg:Str->Option Value)(base:Heap)(C:Addr)(m:Str)(ps:List Str)(dvs:List V)(k:Nat)(sp:Sp):Prop where
 ex:∃(f:Addr) (fd:FuncData) (ds:List Value),FP K C m f/\Ey K fd ps ds/\Vals dvs ds/\Bj P w K mg base Er k f fd ps sp
section
variable{X:Cx}{j k:Nat}{C:Addr}{ps:List Str}{dvs:List V}{sp:Sp}{m:Str}{pos apos:Pos}{e o:Expr}{es:List Expr}{ta:TE}{t:TA}
theorem iE{pl:Sem Bool}(he:PE X o ta)(c:Cls X.K C)(h:OD X.prog X.w X.K X.mg X.base C m ps dvs j sp)(hr:Di k X.A)(ha:PA X (e::es) t)(hk:j<=k:=by decide)
 (hst:starEach (e::es) X.env=(false,eval e X.env)::starEach es X.env:=by rfl) (hpl:(backTo pos (starEach es X.env)).any (·.1)=false:=by rfl)
 (ht:eval (.Call (.Attribute o m apos) (e::es) [] pos) X.env=(do
   let ov ←eval o X.env
   standAt apos.atName
   let (f,first) ←holding [ov] (getMethod ov m pl)
   callWith pos f first (backTo pos (starEach (e::es) X.env)) (backToKw pos (keywordEach [] X.env))):=by rfl) :
 PE X (.Call (.Attribute o m apos) (e::es) [] pos) (bD C m sp dvs E0 ta t):=by
 obtain⟨f,fd,ds,hm,hb,hd,F⟩:=h.ex;exact fV he c hm F (hr.mono hk) hb hd BP ha hst hpl ht
end
end L2
namespace Hb
open PySem L2
theorem Mw{xs:LLInt}{ds:List L2.D}(h:(Ol ds.length&&ds.all (fun e=>Bh xs e (Bq ds.length-1)))=false):¬E7 xs (.d (.tup ds))=true:=fun z=>by
 have z2:Cj xs (.tup ds)=true:=z;rw[Cp,h]at z2;cases z2
theorem c8{xs:LLInt}{l:Int}:Bh xs (.int (xs.length:Int)) l=false:=by
 show(decide (0<=(xs.length:Int))&&decide ((xs.length:Int)<(xs.length:Int))&&_)=false;rw[decide_eq_false (show ¬((xs.length:Int)<(xs.length:Int)) by omega)];simp
theorem QF(us:List V)(y:V):Uw (us++[y]) (-1)=some y:=by
 have h:pS (us++[y]).length (-1)=some us.length:=by
  unfold pS;rw[if_neg (by decide),List.length_append];show(if -(((us.length+1:Nat)):Int)<=-1 then _ else _)=_;rw[if_pos (by omega)]
  congr 1
  simp
  try omega
 unfold Uw;rw[h];simp
theorem PN(xs:LLInt):¬E7 xs (.d (.tup [.int (xs.length:Int),.int (xs.length:Int)]))=true/\¬E7 xs (.d (.tup [.int 0]))=true/\¬E7 xs (.d (.tup [.int (-1),.int 0]))=true/\¬E7 xs (.d (.tup [.int 0,.int (xs.length:Int),.int 0]))=true/\¬E7 xs (.d (.tup [.bl true,.int 0]))=true:=by
 refine⟨Mw ?_,Mw rfl,Mw ?_,Mw ?_,Mw ?_⟩
 . simp[c8]
 . simp[Bh]
 . simp[c8]
 . simp[Bh]
theorem mD{p:Int}{xs:LLInt}{q:List Int}{es ss:List Ms}{bs:Ms}(g:E4 p (xs++[q]) es ss bs):lookI bs (xs.length:Int)=none:=by
 cases h:lookI bs (xs.length:Int) with
 | none=>rfl
 | some e =>
   obtain⟨i,m,_,hi,ht⟩:=(g.bls _ e).mp h;have h1:=((g.eok i m hi).2 _ ht.mem).2.1;have h2:i<es.length:=(List.getElem?_eq_some_iff.mp hi).1;have h3:=g.le;simp at h3;omega
section
variable(K:W.Frag)(CG:Addr)
def Ri(_K:W.Frag):Sp:=fun vs H Q _=>∃(i b:Int),vs=[.int i,.int b]/\0<=i/\i<b/\Q .non H
def Ji:Sp:=fun vs H Q _=>∃(g pc sh ed en:Addr) (OL:V) (kk st p:Int) (xs:LLInt) (es ss:List Ms) (bs:Ms),vs=[.ref g,.int kk,OL]/\Bt K CG H g pc sh ed en p xs es ss bs/\0<=kk/\kk<4/\((OL=.non/\st=(xs.length:Int))\/(OL=.int st/\0<=st/\st<=(xs.length:Int))) ∧
 ∀H',Same H H'->Q (.int (Pz xs es bs kk st:Nat)) H'
def o0:Sp:=fun vs H Q _=>∃(a b:Addr) (kk st:Int) (xs:LLInt) (es:List Ms) (bs:Ms),vs=[.ref a,.ref b,.int kk,.int st]/\LT K H (.ref a) xs/\Rep K H (.ref b) (.lst (De es bs))/\es.length=xs.length/\Q (.int (Pz xs es bs kk st:Nat)) H
def Rp:Sp:=fun vs H Q _=>∃(g pc sh ed en a b:Addr) (turn p:Int) (xs:LLInt) (es ss:List Ms) (bs:Ms),vs=[.ref g,.ref a,.ref b,.int turn]/\Bt K CG H g pc sh ed en p xs es ss bs/\LT K H (.ref a) xs/\Rep K H (.ref b) (.lst (De es bs))/\∀H',Same H H'->Q (.bl true) H'
def Mj:Sp:=fun vs H Q _=>∃(g pc sh ed en:Addr) (Z:Addr->Prop) (v:V) (e:DE) (p:Int) (xs:LLInt) (es ss:List Ms) (bs:Ms),vs=[.ref g,v]/\Bl K CG H Z g pc sh ed en p xs es ss bs/\FO K H v e/\(E7 xs e=true->xs.length=40) ∧
 ∀(t:Addr) (H':Hp),Same H H'->H' t=some (.tup (if E7 xs e=true then [.int 2,.non] else [.int 1,.int (xs.length:Int)]))->Q (.ref t) H'
def O5:Sp:=fun vs H Q _=>∃(a:Addr) (c:Int) (xs:LLInt),vs=[.ref a,.int c]/\LT K H (.ref a) xs/\∀(v:V) (e:DE) (H':Hp),Same H H'->FO K H' v e->¬E7 xs e=true->Q v H'
def Kd:Sp:=fun vs H Q _=>∃(t:Addr) (n:Int),vs=[.ref t,.int n]/\Dw K H t [.int 1,.int n]/\Q (.bl true) H
def Ro:Sp:=fun vs H Q _=>∃(g pc sh ed en a:Addr) (W Z:Addr->Prop) (m p:Int) (xs:LLInt) (es ss:List Ms) (bs:Ms),vs=[.ref g,.ref a,.int m]/\0<=m/\m<=1000/\Bl K CG H Z g pc sh ed en p xs es ss bs/\(∀c,W4 pc sh ed en c->W c)/\(∀c,W c->Mut H c)/\LH K H W a xs ∧
 ∀(a':Addr) (xs':LLInt) (es' ss':List Ms) (bs':Ms) (H':Hp),Hz pc sh ed en H H'->Bl K CG H' Z g pc sh ed en p xs' es' ss' bs'->LH K H' W a' xs'->Q (.ref a') H'
def Rr:Sp:=fun vs H Q _=>∃(g pc sh ed en:Addr) (Z:Addr->Prop) (m:Nat) (p:Int),vs=[.ref g,.int (m:Int)]/\m<=40/\Bl K CG H Z g pc sh ed en p [] [] [] [] ∧
 ∀(l:Addr) (us:List V) (es ss:List Ms) (bs:Ms) (H':Hp),Hz pc sh ed en H H'->H l=none->H' l=some (.lst us)->Reps K H' us ((List.replicate m ([]:List Int)).map tI)->Bl K CG H' Z g pc sh ed en p (List.replicate m []) es ss bs->Q (.ref l) H'
def Rq:Sp:=fun vs H Q _=>∃(g pc sh ed en a:Addr) (W Z:Addr->Prop) (v:V) (p:Int) (xs:LLInt) (q:List Int) (es ss:List Ms) (bs:Ms),vs=[.ref g,.ref a,.int p,v]/\Bl K CG H Z g pc sh ed en p xs es ss bs/\(∀c,W4 pc sh ed en c->W c)/\(∀c,W c->Mut H c)/\LH K H W a xs/\TI K H v q/\Cj xs (tI q)=true/\xs.length<40 ∧
 ∀(es' ss':List Ms) (bs':Ms) (H':Hp),Hz pc sh ed en H H'->Bl K CG H' Z g pc sh ed en p (xs++[q]) es' ss' bs'->Q (.bl true) H'
end
def T2(K:W.Frag)(H:Hp)(W:Addr->Prop)(v:V):Prop:=∃t l m:Addr,v=.ref t/\hidG H W t=some (.tup [.ref l,.ref m]) ∧
 ((∃(us ws:List V) (ds:List L2.D),hidG H W l=some (.lst us)/\hidG H W m=some (.lst ws)/\Reps K H us ds/\Reps K H ws ds/\imms ds=true/\deps ds<=4)\/∃ms:Ms,nd ms/\hidG H W l=some (.dK (cK ms))/\hidG H W m=some (.dK (cK ms)))
def T3(K:W.Frag)(H:Hp)(W:Addr->Prop)(ps:List V):Prop:=∀v∈ps,T2 K H W v
def rOr(a b:R2):R2:=fun x y H Q=>a x y H Q\/b x y H Q
theorem op_or{X:Cx}{f:Value->Value->Sem Value}{a b:R2}(h1:OpR X f a)(h2:OpR X f b):OpR X f (rOr a b):=by
 intro Ac s σ H x y v u Q I r1 r2 h;rcases h with h | h
 . exact h1 Ac s σ H x y v u Q I r1 r2 h
 . exact h2 Ac s σ H x y v u Q I r1 r2 h
def DF(hd:Addr)(H H':Hp):Prop:=∀c o,c≠hd->H c=some o->H' c=some o
section
variable{K:W.Frag}{CG:Addr}{H H' H1 H2:Hp}{W Z:Addr->Prop}{g pc sh ed en hd:Addr}{p:Int}{xs:LLInt}{es ss:List Ms}{bs:Ms}
theorem T2.frW{v:V}(hM:∀c,W c->Mut H c)(fr:Mb W H H')(h:T2 K H W v):T2 K H' W v:=by
 obtain⟨t,l,m,h1,h2,h3⟩:=h;refine⟨t,l,m,h1,fr.hid _ _ h2,?_⟩;rcases h3 with⟨us,ws,ds,a1,a2,a3,a4,a5,a6⟩|⟨ms,a0,a1,a2⟩
 . exact .inl ⟨us,ws,ds,fr.hid _ _ a1,fr.hid _ _ a2,Reps.t (fr.t hM) a5 a3,Reps.t (fr.t hM) a5 a4,a5,a6⟩
 . exact .inr ⟨ms,a0,fr.hid _ _ a1,fr.hid _ _ a2⟩
theorem T3.frW{ps:List V}(hM:∀c,W c->Mut H c)(fr:Mb W H H')(h:T3 K H W ps):T3 K H' W ps:=fun v hv=>(h v hv).frW hM fr
theorem T3.snoc{ps:List V}{v:V}(h:T3 K H W ps)(hv:T2 K H W v):T3 K H W (ps++[v]):=fun w hw=>by
 rcases List.mem_append.mp hw with z | z
 . exact h w z
 . rw[List.mem_singleton]at z;rw[z];exact hv
theorem DF.of(s:Same H H'):DF hd H H':=fun c o _ e=>s c o e
theorem DF.trans(a:DF hd H H1)(b:DF hd H1 H2):DF hd H H2:=fun c o n e=>b c o n (a c o n e)
theorem DF.up{o:HO}:DF hd H (upd H hd o):=fun c u n e=>by rw[Ae n];exact e
theorem Bl.other(x:Bl K CG H Z g pc sh ed en p xs es ss bs){us:List V}{o:HO}(h:H hd=some (.lst us))(n1:hd≠pc)(n2:hd≠sh)(n3:hd≠ed):Bl K CG (upd H hd o) Z g pc sh ed en p xs es ss bs:=by
 refine⟨x.at_.other h n1 n2 n3,x.sht,x.zen,fun c z=>?_,fun ds e=>x.ze ds (by rw[Ae n3.symm]at e;exact e),fun ds e=>x.zs ds (by rw[Ae n2.symm]at e;exact e)⟩;by_cases q:c=hd
 . rw[q,Ad];intro y;cases y
 . rw[Ae q];exact x.zin c z
theorem mF{us us':List V}(hM:∀c,W c->Mut H c):∀c,W c->Mut (upd H hd (.lst us')) c:=fun c w=>by
 by_cases q:c=hd
 . subst q;exact .inl ⟨_,Ad⟩
 . rcases hM c w with⟨u,e⟩|⟨u,e⟩
   . exact .inl ⟨u,by rw[Ae q];exact e⟩
   . exact .inr ⟨u,by rw[Ae q];exact e⟩
end
def FrD(pc sh ed en hd:Addr)(H H':Hp):Prop:=∀c o,¬W4 pc sh ed en c->c≠hd->H c=some o->H' c=some o
structure Ex(K:W.Frag)(CG:Addr)(H:Hp)(W Z:Addr->Prop)(g pc sh ed en a hd:Addr)(p:Int)(xs:LLInt)(es ss:List Ms)(bs:Ms)(ps:List V):Prop where
 gr:Bl K CG H Z g pc sh ed en p xs es ss bs
 lh:LH K H W a xs
 w4:∀c,W4 pc sh ed en c->W c
 wm:∀c,W c->Mut H c
 wh:W hd
 at_:H hd=some (.lst ps)
 n:hd≠pc/\hd≠sh/\hd≠ed
 he:T3 K H W ps
section
variable{K:W.Frag}{CG:Addr}{H H' H1 H2:Hp}{W Z:Addr->Prop}{g pc sh ed en a hd:Addr}{p:Int}{xs:LLInt}{es ss:List Ms}{bs:Ms}{ps:List V}
theorem Ex.same(x:Ex K CG H W Z g pc sh ed en a hd p xs es ss bs ps)(s:Same H H'):Ex K CG H' W Z g pc sh ed en a hd p xs es ss bs ps :=
 ⟨x.gr.same s,x.lh.same s,x.w4,fun c w=>(x.wm c w).same s,x.wh,s _ _ x.at_,x.n,x.he.frW x.wm (Mb.of s)⟩
theorem Ex.put{v:V}(x:Ex K CG H W Z g pc sh ed en a hd p xs es ss bs ps)(hv:T2 K H W v):Ex K CG (upd H hd (.lst (ps++[v]))) W Z g pc sh ed en a hd p xs es ss bs (ps++[v]):=by
 have fr:Mb W H (upd H hd (.lst (ps++[v]))):=Mb.up x.wh;exact⟨x.gr.other x.at_ x.n.1 x.n.2.1 x.n.2.2,LH.frW x.wm fr x.lh,x.w4,mF (us:=ps) x.wm,x.wh,Ad,x.n,(x.he.frW x.wm fr).snoc (hv.frW x.wm fr)⟩
theorem Ex.deed{a':Addr}{xs':LLInt}{es' ss':List Ms}{bs':Ms}(x:Ex K CG H W Z g pc sh ed en a hd p xs es ss bs ps)(fr:Hz pc sh ed en H H')(gr:Bl K CG H' Z g pc sh ed en p xs' es' ss' bs')(lh:LH K H' W a' xs') :
 Ex K CG H' W Z g pc sh ed en a' hd p xs' es' ss' bs' ps:=by
 have SH:hd≠en:=fun z=>by have:=x.at_;rw[z,x.gr.at_.ens]at this;cases this
 have KI:Mb W H H':=Mb.ofG x.w4 fr;refine⟨gr,lh,x.w4,gr.at_.mutW fr x.wm,x.wh,fr _ _ ?_ x.at_,x.n,x.he.frW x.wm KI⟩;rintro (z | z | z | z)
 . exact x.n.1 z
 . exact x.n.2.1 z
 . exact x.n.2.2 z
 . exact SH z
end
structure GS where
 g:Addr
 pc:Addr
 sh:Addr
 ed:Addr
 en:Addr
 r:Addr
 p:Int
 xs:LLInt
 es:List Ms
 ss:List Ms
 bs:Ms
abbrev RB(K:W.Frag)(CG:Addr)(H:Hp)(W Z:Addr->Prop)(hd:Addr)(s:GS)(ps:List V):Prop:=Ex K CG H W Z s.g s.pc s.sh s.ed s.en s.r hd s.p s.xs s.es s.ss s.bs ps
structure BA(K:W.Frag)(CG:Addr)(H:Hp)(W Z:Addr->Prop)(hd Rs:Addr)(s t:GS)(rl ps:List V):Prop where
 a:RB K CG H W Z hd s ps
 b:RB K CG H W Z hd t ps
 rs:H Rs=some (.lst rl)
 wr:W Rs
 dis:∀c,W4 s.pc s.sh s.ed s.en c->W4 t.pc t.sh t.ed t.en c->False
 nr:¬W4 s.pc s.sh s.ed s.en Rs/\¬W4 t.pc t.sh t.ed t.en Rs/\Rs≠hd
section
variable{K:W.Frag}{CG:Addr}{H H':Hp}{W Z:Addr->Prop}{hd Rs:Addr}{s t:GS}{rl ps:List V}
theorem BA.swap(x:BA K CG H W Z hd Rs s t rl ps):BA K CG H W Z hd Rs t s rl ps:=⟨x.b,x.a,x.rs,x.wr,fun c h1 h2=>x.dis c h2 h1,x.nr.2.1,x.nr.1,x.nr.2.2⟩
theorem BA.same(x:BA K CG H W Z hd Rs s t rl ps)(e:Same H H'):BA K CG H' W Z hd Rs s t rl ps:=⟨x.a.same e,x.b.same e,e _ _ x.rs,x.wr,x.dis,x.nr⟩
theorem Bl.beside{g pc sh ed en:Addr}{p:Int}{xs:LLInt}{es ss:List Ms}{bs:Ms}{D:Addr->Prop}(x:Bl K CG H Z g pc sh ed en p xs es ss bs)(hD:∀c,D c->Mut H c/\((∃us,H c=some (.lst us))\/Z c))(fr:∀c o,¬D c->H c=some o->H' c=some o)(w1:∀c,D c->H' c≠none)
 (n:∀c,D c->¬W4 pc sh ed en c):Bl K CG H' Z g pc sh ed en p xs es ss bs:=by
 have keep:∀{c:Addr}{o:HO},H c=some o->(∀us,o≠.lst us)->(∀kvs,o≠.dK kvs)->H' c=some o:=fun {c o} e n1 n2=>fr c o (fun w=>by
  rcases (hD c w).1 with⟨us,q⟩|⟨kvs,q⟩
  . rw[e]at q;exact n1 _ (Option.some.inj q)
  . rw[e]at q;exact n2 _ (Option.some.inj q)) e
 have own:∀{c:Addr}{o:HO},H c=some o->W4 pc sh ed en c->H' c=some o:=fun {c o} e h=>fr c o (fun w=>n c w h) e
 have chain:∀{c:Addr}{m:Ms},H c=some (.dK (cK m))->¬Z c->H' c=some (.dK (cK m)):=fun {c m} e nz=>fr c _ (fun w=>by
  rcases (hD c w).2 with⟨us,q⟩ | z
  . rw[e]at q;cases q
  . exact nz z) e
 obtain⟨dx,fs,a1,a2⟩:=x.at_.ob;obtain⟨us,b1,b2⟩:=x.at_.pcs;obtain⟨ds,d1,d2,d3⟩:=x.at_.eds.ex;obtain⟨cs,c1,c2,c3⟩:=x.at_.shs.ex;have ts:E8 H H':=⟨fun b us e=>keep e (fun _ z=>by cases z) (fun _ z=>by cases z),fun b o u e=>keep e (fun _ z=>by cases z) (fun _ z=>by cases z)⟩
 have hd:=own d1 (.inr (.inr (.inl rfl)));have hc:=own c1 (.inr (.inl rfl));refine⟨⟨⟨dx,fs,keep a1 (fun _ z=>by cases z) (fun _ z=>by cases z),a2⟩,⟨us,own b1 (.inl rfl),Reps.t ts (Fw _) b2⟩,⟨ds,hd,d2,fun i d m e1 e2=>?_⟩,⟨cs,hc,c2,fun i d m e1 e2=>?_⟩,own x.at_.ens (.inr (.inr (.inr rfl))),x.at_.ne,x.at_.gw,x.at_.pr⟩,x.sht,x.zen,fun c z=>?_,fun ds' h=>?_,fun ds' h=>?_⟩
 . obtain⟨q1,q2⟩:=d3 i d m e1 e2;exact⟨chain q1 (x.ze ds d1 d (List.mem_of_getElem? e1)),q2⟩
 . obtain⟨q1,q2⟩:=c3 i d m e1 e2;exact⟨chain q1 (x.zs cs c1 d (List.mem_of_getElem? e1)),q2⟩
 . by_cases hw:D c
   . exact w1 c hw
   . cases e:H c with
     | none=>exact absurd e (x.zin c z)
     | some o=>rw[fr _ _ hw e];intro q;cases q
 . rw[hd]at h;have:ds.map V.ref=ds'.map V.ref:=HO.lst.inj (Option.some.inj h);rw[←Ez this];exact x.ze ds d1
 . rw[hc]at h;have:cs.map V.ref=ds'.map V.ref:=HO.lst.inj (Option.some.inj h);rw[←Ez this];exact x.zs cs c1
theorem Bl.besideG{g pc sh ed en g' pc' uY tQ WL:Addr}{p p':Int}{xs ys ys':LLInt}{es ss fs ts fs' ts':List Ms}{bs cs cs':Ms}(x:Bl K CG H Z g pc sh ed en p xs es ss bs)(y:Bl K CG H Z g' pc' uY tQ WL p' ys fs ts cs)(fr:Hz pc' uY tQ WL H H')(y':Bl K CG H' Z g' pc' uY tQ WL p' ys' fs' ts' cs')
 (n:∀c,W4 pc' uY tQ WL c->W4 pc sh ed en c->False):Bl K CG H' Z g pc sh ed en p xs es ss bs:=by
 refine x.beside (D:=W4 pc' uY tQ WL) (fun c h=>⟨y.at_.mut c h,?_⟩) fr (fun c h=>(y'.at_.mut c h).there) n;rcases h with rfl | rfl | rfl | rfl
 . obtain⟨_,q,_⟩:=y.at_.pcs;exact .inl ⟨_,q⟩
 . obtain⟨_,q,_⟩:=y.at_.shs.ex;exact .inl ⟨_,q⟩
 . obtain⟨_,q,_⟩:=y.at_.eds.ex;exact .inl ⟨_,q⟩
 . exact .inr y.zen
theorem BA.deed{a':Addr}{xs':LLInt}{es' ss':List Ms}{bs':Ms}{ps':List V}(x:BA K CG H W Z hd Rs s t rl ps)(fr:FrD s.pc s.sh s.ed s.en hd H H')(l:Ex K CG H' W Z s.g s.pc s.sh s.ed s.en a' hd s.p xs' es' ss' bs' ps') :
 BA K CG H' W Z hd Rs ⟨s.g,s.pc,s.sh,s.ed,s.en,a',s.p,xs',es',ss',bs'⟩ t rl ps'/\Mb W H H':=by
 have KI:Mb W H H':=fun c o n e=>fr c o (fun w=>n (x.a.w4 c w)) (fun z=>n (by rw[z];exact x.a.wh)) e;refine⟨⟨l,⟨?_,LH.frW x.b.wm KI x.b.lh,x.b.w4,l.wm,l.wh,l.at_,x.b.n,l.he⟩,fr _ _ x.nr.1 x.nr.2.2 x.rs,x.wr,x.dis,x.nr⟩,KI⟩;refine Bl.beside (D:=fun c=>W4 s.pc s.sh s.ed s.en c\/c=hd) x.b.gr (fun c h=>?_) (fun c o n e=>fr c o (fun w=>n (.inl w)) (fun z=>n (.inr z)) e) (fun c h=>?_) (fun c h w=>?_)
 . rcases h with h | h
   . refine⟨x.a.gr.at_.mut c h,?_⟩;rcases h with rfl | rfl | rfl | rfl
     . obtain⟨_,q,_⟩:=x.a.gr.at_.pcs;exact .inl ⟨_,q⟩
     . obtain⟨_,q,_⟩:=x.a.gr.at_.shs.ex;exact .inl ⟨_,q⟩
     . obtain⟨_,q,_⟩:=x.a.gr.at_.eds.ex;exact .inl ⟨_,q⟩
     . exact .inr x.a.gr.zen
   . subst h;exact⟨.inl ⟨_,x.a.at_⟩,.inl ⟨_,x.a.at_⟩⟩
 . rcases h with h | h
   . exact(l.gr.at_.mut c h).there
   . rw[h,l.at_];intro q;cases q
 . rcases h with h | h
   . exact x.dis c h w
   . subst h;rcases w with w | w | w | w
     . exact x.b.n.1 w
     . exact x.b.n.2.1 w
     . exact x.b.n.2.2 w
     . have:=x.b.at_;rw[w,x.b.gr.at_.ens]at this;cases this
theorem Ex.other{g pc sh ed en a:Addr}{p:Int}{xs:LLInt}{es ss:List Ms}{bs:Ms}{us us':List V}(x:Ex K CG H W Z g pc sh ed en a hd p xs es ss bs ps)(hr:H Rs=some (.lst us))(wr:W Rs)(n1:¬W4 pc sh ed en Rs)(n2:Rs≠hd):Ex K CG (upd H Rs (.lst us')) W Z g pc sh ed en a hd p xs es ss bs ps:=by
 have fr:Mb W H (upd H Rs (.lst us')):=Mb.up wr;exact⟨x.gr.other hr (fun z=>n1 (.inl z)) (fun z=>n1 (.inr (.inl z))) (fun z=>n1 (.inr (.inr (.inl z)))),LH.frW x.wm fr x.lh,x.w4,mF (us:=us) x.wm,x.wh,by rw[Ae n2.symm];exact x.at_,x.n,x.he.frW x.wm fr⟩
theorem BA.row{rl':List V}(x:BA K CG H W Z hd Rs s t rl ps):BA K CG (upd H Rs (.lst rl')) W Z hd Rs s t rl' ps :=
 ⟨x.a.other x.rs x.wr x.nr.1 x.nr.2.2,x.b.other x.rs x.wr x.nr.2.1 x.nr.2.2,Ad,x.wr,x.dis,x.nr⟩
end
section
variable(K:W.Frag)(CG:Addr)
def P6:Sp:=fun vs H Q _=>∃(g pc sh ed en a hd:Addr) (W Z:Addr->Prop) (turn p:Int) (xs:LLInt) (es ss:List Ms) (bs:Ms) (ps:List V),vs=[.ref g,.ref a,.int p,.int turn,.ref hd]/\Ex K CG H W Z g pc sh ed en a hd p xs es ss bs ps/\ps.length<=1000 ∧
 ∀(ps':List V) (H':Hp),DF hd H H'->Ex K CG H' W Z g pc sh ed en a hd p xs es ss bs ps'->ps'.length<=ps.length+2->Q (.bl true) H'
def Vj:Sp:=fun vs H Q _=>∃(g pc sh ed en a hd:Addr) (W Z:Addr->Prop) (cell most p:Int) (xs:LLInt) (es ss:List Ms) (bs:Ms) (ps:List V),vs=[.ref g,.ref a,.int p,.int cell,.int most,.ref hd]/\most<=40/\Ex K CG H W Z g pc sh ed en a hd p xs es ss bs ps/\ps.length<=1000 ∧
 ∀(a':Addr) (xs':LLInt) (es' ss':List Ms) (bs':Ms) (ps':List V) (H':Hp),FrD pc sh ed en hd H H'->Ex K CG H' W Z g pc sh ed en a' hd p xs' es' ss' bs' ps'->ps'.length<=ps.length+2->Q (.ref a') H'
end
def top(i:Nat):Stmt:=PySem.Challenge.pw_holebook_k58_taken_back_as_if_never.main.body.getD i (.Pass ⟨0,0,0,0⟩)
structure Ga(K:W.Frag)(mg:Str->Option Value)(Al Am Ak Ab:Addr):Prop where
 m_HoleError:mg "HoleError"=some (.ref Al)
 m_NoShape:mg "NoShape"=some (.ref Am)
 e_NoShape:PySem.W.excIn K Am bmV "ValueError.__new__"=true
 k_NoShape:PySem.W.ktsIn K Am "BaseException"=true
 m_NoPiece:mg "NoPiece"=some (.ref Ak)
 x_NoPiece:ExcC K Ak
 k_NoPiece:PySem.W.ktsIn K Ak "BaseException"=true
 s_NoShape_NoShape:PySem.W.subIn K (.ref Am) (.ref Am)=some true
 s_NoShape_NoPiece:PySem.W.subIn K (.ref Am) (.ref Ak)=some false
 s_NoPiece_NoPiece:PySem.W.subIn K (.ref Ak) (.ref Ak)=some true
 bi_HoleError:DC K Al
 ec_NoPiece:∃f,P1 K Ak Al f
 ea_NoPiece_place:ErrA K Ak "place"
 m_Growth:mg "Growth"=some (.ref Ab)
 cl_Growth:Cls K Ab
 na_Growth_prime:NoAttr K Ab "prime"
 na_Growth_pieces:NoAttr K Ab "pieces"
 na_Growth_sheets:NoAttr K Ab "sheets"
 na_Growth_edges:NoAttr K Ab "edges"
 na_Growth_enders:NoAttr K Ab "enders"
 x_FACE_COUNTS:∃a,mg "FACE_COUNTS"=some (.ref a)/\∀H,Dw K H a (([0,2,3,4]:List Int).map V.int)
 x_MOST_PIECES:∃t,mg "MOST_PIECES"=some (.int 40 t)
 x_PRIME_BOUND:∃t,mg "PRIME_BOUND"=some (.int 98 t)
 x_LEVELS:∃t,mg "LEVELS"=some (.int 4 t)
 n_isinstance:mg "isinstance"=none
 n_int:mg "int"=none
 n_bool:mg "bool"=none
 n_tuple:mg "tuple"=none
 n_zip:mg "zip"=none
 n_max:mg "max"=none
 n_len:mg "len"=none
 n_all:mg "all"=none
 n_range:mg "range"=none
 n_dict:mg "dict"=none
 n_enumerate:mg "enumerate"=none
 n_list:mg "list"=none
def CJ(ns:List Int)(lo hi:Option Int):List Int:=(ns.drop (HT.sIx ns.length 0 lo)).take (HT.sIx ns.length ns.length hi-HT.sIx ns.length 0 lo)
theorem nN(ns:List Int)(lo hi:Option Int):Ta (ns.map V.int) lo hi=(CJ ns lo hi).map V.int:=by
 unfold Ta CJ;rw[List.length_map,List.map_take,List.map_drop]
theorem NN(ns:List Int)(lo hi:Option Int):(CJ ns lo hi).length<=ns.length:=by
 unfold CJ;rw[List.length_take,List.length_drop];omega
theorem c7{K:W.Frag}{H:Hp}:∀l:List Nat,Reps K H (l.map fun(j:Nat)=>V.int (j:Int)) (l.map fun(j:Nat)=>L2.D.int (j:Int))
 | []=>rfl
 | j::l=>⟨_,_,rfl,rfl,c7 l⟩
theorem g6:∀l:List Nat,deps (l.map fun(j:Nat)=>L2.D.int (j:Int))<=1
 | []=>by simp[deps]
 | j::l=>by
   have:=g6 l;simp only[List.map_cons,deps,dep];omega
theorem VM:(["number"]:List Str).Nodup:=by decide +kernel
theorem qP:(["old","new","quotient"]:List Str).Nodup:=by decide +kernel
theorem vM:(["face","shape","level"]:List Str).Nodup:=by decide +kernel
theorem QO:(["place","old","number"]:List Str).Nodup:=by decide +kernel
theorem VL:(["number","thing"]:List Str).Nodup:=by decide +kernel
theorem qO:(["place","number","prime"]:List Str).Nodup:=by decide +kernel
theorem QN:(["birth","edge","self"]:List Str).Nodup:=by decide +kernel
theorem vL:(["pair","now"]:List Str).Nodup:=by decide +kernel
theorem vK:(["pair","self","k"]:List Str).Nodup:=by decide +kernel
theorem VJ:(["_law_place","_law_pieces"]:List Str).Nodup:=by decide +kernel
theorem SM:(["_law_face","_law_pieces","_law_j"]:List Str).Nodup:=by decide +kernel
theorem sM:(["_law_face","_law_pieces","_law_faces"]:List Str).Nodup:=by decide +kernel
theorem sL:(["_law_face","_law_pieces","_law_level_here"]:List Str).Nodup:=by decide +kernel
theorem SK:(["_law_n"]:List Str).Nodup:=by decide +kernel
theorem SJ:(["_law_k","_law_n"]:List Str).Nodup:=by decide +kernel
theorem mE:(["_law_face","_law_number","_law_prime_here"]:List Str).Nodup:=by decide +kernel
theorem sJ:(["_law_place","_law_ends"]:List Str).Nodup:=by decide +kernel
theorem SI:(["_law_k"]:List Str).Nodup:=by decide +kernel
section
variable{P:Program}{w:World}{K:W.Frag}{mg:Str->Option Value}{base:Heap}{Al Am Ak Ab:Addr}
abbrev Fd:Stmt:=top 1
theorem BH:FnScope ["thing"] ["thing"] (Ai Fd):=A7
theorem BR{f:Addr}{fd:FuncData}(F:Fo K "is_whole" "is_whole" Fd f fd)(T:Ga K mg Al Am Ak Ab) :Bj P w K mg base Er 1 f fd ["thing"] (Id K):=by
 refine F.ok BH (fun vs H Q E h=>?_) (fun Cl A outer s H vs Q E hr h=>?_)
 . obtain⟨x,d,rfl,hx,k⟩:=h;rfl
 . obtain⟨x,d,rfl,hx,k⟩:=h;refine⟨_,(Ah (At (Ix (Aq (Ed (K:=K)) T.n_isinstance Bo (Aa (pv 0) (Aa (Ge (v:=.ty "int") rfl T.n_int boot_intT rfl) Af))) (Hc (LK (Aq (Ed (K:=K)) T.n_isinstance Bo (Aa (pv 0) (Aa (Ge (v:=.ty "bool") rfl T.n_bool Xy rfl) Af)))))))),?_⟩;refine⟨_,rfl,_,_,d,rfl,.inl rfl,hx,_,rfl,?_⟩;refine ite2 (fun e=>?_) (fun e=>?_)
   . refine⟨_,rfl,_,_,d,rfl,.inr (.inl rfl),hx,_,rfl,?_⟩;have e2:Cw d=!U7 "bool" d:=by unfold Cw;rw[e];rfl
     rw[e2]at k;exact k
   . have e2:Cw d=false:=by unfold Cw;simp[e]
     rw[e2]at k;exact k
abbrev Cd:Stmt:=top 3
theorem Bw:FnScope ["one","other","last","now","quotient","rest"] ["one","other"] (Ai Cd):=A7
theorem Qd{f:Addr}{fd:FuncData}(F:Fo K "shared_divisor" "shared_divisor" Cd f fd)(T:Ga K mg Al Am Ak Ab) :Bj P w K mg base Er 1 f fd ["one","other"] (p9 K):=by
 refine F.ok Bw (fun vs H Q E h=>?_) (fun Cl A outer s H vs Q E hr h=>?_)
 . obtain⟨n,p,rfl,hp,Sv,hn,k⟩:=h;rfl
 . obtain⟨n,p,rfl,hp,Sv,hn,k⟩:=h
   refine⟨_,(Ag (Av (i:=2) Bw.nd (By (Aa (pv 0) (Aa Aj (Aa Aj Af)))))
    (Ag (Av (i:=3) Bw.nd (By (Aa (pv 1) (Aa Aj (Aa Aj Af)))))
    (Ag (BK PassesOwn.never (As Lo (A5 (Be (K:=K)) (pv 3) Aj (fun _ _=>rfl)) Aj (Aw _)) (Ag (Av (i:=4) Bw.nd (A6 Ik (A5 (Be (K:=K)) (pv 2) Aj (fun _ _=>rfl)) (A5 (Be (K:=K)) (pv 3) Aj (fun _ _=>rfl))))
    (Ag (Av (i:=5) Bw.nd (C7 (Hh (K:=K)) (by rfl) T.n_tuple Ew (Aa (Eb (N':=["old","new","quotient"]) (cap:=[none,none,some 4]) (by rfl) (by kernel_rfl) (oX (K:=K) (by rfl) T.n_zip (Aa (pv 2) (Aa (pv 3) Af))) (fun _ _ _ _=>(El (K:=K) (n:=2) (by rfl) (Bi (Ax (i:=0) qP) (Bi (Ax (i:=1) qP) Ek)))) (fun _ _ _ _=>Ih) (fun _ _ _ _=>(A6 Mr (pv 0) (A6 op_mulX (pv 2) (pv 1))))) Af)))
    (Ag (Av (i:=2) Bw.nd (pv 3))
    (Ah (Av (i:=3) Bw.nd (pv 5)))))))
    (Ag (Ba (As Ij (A5 (Be (K:=K)) (pv 2) Aj (fun _ _=>rfl)) Aj (Aw _)) (Ah (At (C7 (Hh (K:=K)) (by rfl) T.n_tuple Ew (Aa (Eb (N':=["number"]) (cap:=[none]) (by rfl) (by kernel_rfl) (Ql (K:=K) (pv 2)) (fun _ _ _ _=>(Ax (i:=0) VM)) (fun _ _ _ _=>Ih) (fun _ _ _ _=>(Qb Kb (pv 0)))) Af)))) Az)
    (Ah (At (pv 2))))))),?_⟩
   have hp2:=hp.two;refine⟨_,rfl,Bc (by simp),fun L0 hL0=>?_⟩;have s0:Same H (upd H L0 (.tup [.int n,.int 1,.int 0])):=Same.new hL0;refine⟨_,rfl,Bc (by simp),fun N0 hN0=>?_⟩;have s1:Same (upd H L0 (.tup [.int n,.int 1,.int 0])) (upd (upd H L0 (.tup [.int n,.int 1,.int 0])) N0 (.tup [.int p,.int 0,.int 1])):=Same.new hN0;refine Cm (fun σ' H'=>σ'=[some (.int n),some (.int p),some (.ref L0),some (.ref N0),none,none]/\H'=upd (upd H L0 (.tup [.int n,.int 1,.int 0])) N0 (.tup [.int p,.int 0,.int 1])) ?_ fun Hg=>Hg _ _ ⟨rfl,rfl⟩;rintro _ _ ⟨rfl,rfl⟩;refine Ar (fun σ' H'=>∃(L N:Addr) (x y:Int) (o4 o5:Option V),σ'=[some (.int n),some (.int p),some (.ref L),some (.ref N),o4,o5]/\Same H H'/\Dw K H' L [.int 1,.int x,.int y]/\p∣1-x*n) ?_ fun key=>?_;rotate_left
   . refine⟨fun m σ G=>∃(L N:Addr) (a x y b u v:Int) (o4 o5:Option V),σ=[some (.int n),some (.int p),some (.ref L),some (.ref N),o4,o5]/\Same H G/\Dw K G L [.int a,.int x,.int y]/\Dw K G N [.int b,.int u,.int v]/\Eu n p a x b u/\((b=p/\u=0/\v=1)\/(0<=b/\b<a/\a<=p))/\m=b.toNat,⟨_,L0,N0,n,1,0,p,0,1,none,none,rfl,s0.trans s1,.of (s1 _ _ Ad),.of Ad,Eu.start n p,.inl ⟨rfl,rfl,rfl⟩,rfl⟩,?_⟩;rintro m σ G ⟨L,N,a,x,y,b,u,v,o4,o5,rfl,s2,hL,hN,hE,hst,rfl⟩;refine⟨_,rfl,N,_,_,_,rfl,rfl,hN,rfl,rfl,_,rfl,?_⟩;refine ite2 (fun h1=>?_) (fun h1=>?_)
     . have hb0:¬b=0:=by simpa using h1
       have hbp:0<b/\b<=p:=by omega
       have hq:IntMulOk (a / b) u/\IntMulOk (a / b) v:=by
        rcases hst with⟨_,e1,e2⟩|⟨e0,e1,e2⟩
        . subst e1 e2;exact⟨z8 (by decide) (by decide),z8 (by decide) (by decide)⟩
        . have q0:0<=a / b:=Int.ediv_nonneg (by omega) (by omega);have q1:a / b<=a:=Int.ediv_le_self _ (by omega);exact⟨My (by omega) (by omega),My (by omega) (by omega)⟩
       have hr:a-a / b*b=a%b:=by rw[Int.emod_def,Int.mul_comm]
       have hr0:0<=a%b:=Int.emod_nonneg _ (by omega);have hr1:a%b<b:=Int.emod_lt_of_pos _ (by omega);refine⟨fun σ' G'=>∃(L N:Addr) (a' x y b' u v:Int) (o4 o5:Option V),σ'=[some (.int n),some (.int p),some (.ref L),some (.ref N),o4,o5]/\Same H G'/\Dw K G' L [.int a',.int x,.int y]/\Dw K G' N [.int b',.int u,.int v]/\Eu n p a' x b' u/\(0<=b'/\b'<a'/\a'<=p)/\b'<b,?_,?_⟩
       . rintro σ' G' ⟨L',N',a',x',y',b',u',v',o4',o5',rfl,q1,q2,q3,q4,q5,q6⟩;exact⟨b'.toNat,by omega,L',N',a',x',y',b',u',v',o4',o5',rfl,q1,q2,q3,q4,.inr q5,rfl⟩
       refine⟨_,rfl,L,_,_,_,rfl,rfl,hL,rfl,_,rfl,N,_,_,_,rfl,rfl,hN,rfl,_,_,rfl,rfl,⟨by omega,by omega⟩,?_⟩;refine⟨_,rfl,_,rfl,L,N,rfl,⟨_,hL⟩,⟨_,hN⟩,fun D hD=>?_⟩
       have gv:∀(i:Nat) (e f:V),([.int a,.int x,.int y]:List V)[i]?=some e->([.int b,.int u,.int v]:List V)[i]?=some f->∃e' f':Int,e=.int e'/\f=.int f'/\IntMulOk (a / b) f'/\i<3 ∧
        ([.int (a-a / b*b),.int (x-a / b*u),.int (y-a / b*v)]:List V)[i]?=some (.int (e'-a / b*f')):=by
        intro i e f he hf
        match i,he,hf with
        | 0,he,hf=>cases he;cases hf;exact⟨a,b,rfl,rfl,z8 (by omega) (by omega),by decide,rfl⟩
        | 1,he,hf=>cases he;cases hf;exact⟨x,u,rfl,rfl,hq.1,by decide,rfl⟩
        | 2,he,hf=>cases he;cases hf;exact⟨y,v,rfl,rfl,hq.2,by decide,rfl⟩
        | i+3,he,hf=>simp at he
       refine FI (K:=K) (a:=L) (b:=N) (xs:=[.int a,.int x,.int y]) (ys:=[.int b,.int u,.int v]) (n:=3) ⟨rfl,rfl⟩ (fun i zs τ G1=>Same G G1/\G1 D=some (.lst zs)/\zs=([.int (a-a / b*b),.int (x-a / b*u),.int (y-a / b*v)]:List V).take i/\∃o1 o2,τ=[o1,o2,some (.int (a / b))])
        ⟨Same.new hD,Ad,rfl,none,none,rfl⟩ (fun i zs τ G1 _ ⟨s3,_⟩=>⟨s3.seqT hL,s3.seqT hN⟩) ?_ ?_
       . rintro i e f zs τ G1 pr he hf ⟨s3,UI,hzs,o1,o2,rfl⟩ JF;obtain⟨e',f',rfl,rfl,hok,xO,hnext⟩:=gv i e f he hf;have sp:Same G1 (upd G1 pr (.tup [.int e',.int f'])):=Same.new JF;refine⟨pr,_,rfl,.of Ad,rfl,_,_,rfl,_,_,rfl,rfl,?_⟩;refine⟨_,rfl,_,rfl,_,rfl,_,_,rfl,rfl,hok,_,_,rfl,rfl,?_⟩;refine⟨sp _ _ UI,Dg (by rw[hzs,List.length_take];omega),(s3.trans sp).turn hD,Ad,?_,_,_,rfl⟩;rw[List.take_succ,hnext,hzs];rfl
       . rintro zs τ G1 ⟨s3,UI,hzs,_⟩;refine⟨D,_,rfl,.inl ⟨.of UI,fun T1 hT1=>?_⟩⟩;have s4:Same G1 (upd G1 T1 (.tup zs)):=Same.new hT1;have ZE:zs=[.int (a-a / b*b),.int (x-a / b*u),.int (y-a / b*v)]:=hzs;have hT2:Dw K (upd G1 T1 (.tup zs)) T1 [.int (a-a / b*b),.int (x-a / b*u),.int (y-a / b*v)]:=by rw[←ZE];exact .of Ad
         refine⟨_,rfl,_,rfl,N,T1,b,u,v,a-a / b*b,x-a / b*u,y-a / b*v,_,_,rfl,(s2.trans s3).trans s4,(s3.trans s4).seqT hN,hT2,hE.step (a / b),?_,?_⟩
         . rw[hr];exact⟨hr0,hr1,hbp.2⟩
         . rw[hr];exact hr1
     . have hb0:b=0:=by simpa using h1
       subst hb0;have ha:0<a:=by omega
       have e1:=hE.last hp hn ha;subst e1;exact key _ _ ⟨L,N,x,y,o4,o5,rfl,s2,hL,hE.ha⟩
   rintro _ G ⟨L,N,x,y,o4,o5,rfl,s2,hL,hd⟩;refine⟨_,rfl,L,_,_,_,rfl,rfl,hL,rfl,_,_,rfl,rfl,_,rfl,?_⟩;refine Da (by simp) ?_;exact⟨_,rfl,k L x y G s2 hL hd⟩
abbrev Fc:Stmt:=top 6
theorem bH:FnScope ["piece"] ["piece"] (Ai Fc):=A7
theorem bR{f:Addr}{fd:FuncData}(F:Fo K "level_of" "level_of" Fc f fd)(T:Ga K mg Al Am Ak Ab) :Bj P w K mg base Er 1 f fd ["piece"] (B2 K):=by
 refine F.ok bH (fun vs H Q E h=>?_) (fun Cl A outer s H vs Q E hr h=>?_)
 . obtain⟨x,ds,rfl,hx,k⟩:=h;rfl
 . obtain⟨x,ds,rfl,hx,k⟩:=h;refine⟨_,(Ah (At (Aq (j6 (by rfl)) T.n_max Fm (Aa (A6 Mr (Aq (An (K:=K)) T.n_len boot_len (Aa (pv 0) Af)) Aj) (Aa Aj Af))))),?_⟩
   obtain⟨p,us,e,hq,hl⟩:∃(p:Addr) (us:List V),x=.ref p/\(SqL K H p us\/Dw K H p us)/\us.length=ds.length:=by
    rcases hx with⟨p,us,e,hq,r⟩|⟨p,us,e,hq,r⟩
    . exact⟨p,us,e,.inl hq,r.length⟩
    . exact⟨p,us,e,.inr hq,r.length⟩
   subst e;refine⟨_,rfl,p,us,rfl,hq,_,_,rfl,rfl,_,_,rfl,?_⟩;rw[hl];exact k
abbrev Dk:Stmt:=top 9
theorem G7:FnScope ["shape","faces","j","i"] ["shape","faces"] (Ai Dk):=A7
theorem V3{f:Addr}{fd:FuncData}(F:Fo K "faces_agree" "faces_agree" Dk f fd)(T:Ga K mg Al Am Ak Ab) :Bj P w K mg base Er 1 f fd ["shape","faces"] (Gz K):=by
 refine F.ok G7 (fun vs H Q E h=>?_) (fun Cl A outer s H vs Q E hr h=>?_)
 . obtain⟨a,v,xs,p,rfl,hL,hv,hp4,hf,k⟩:=h;rfl
 . obtain⟨a,v,xs,p,rfl,hL,hv,hp4,hf,k⟩:=h
   refine⟨_,(Ag (C5 PassesOwn.never rfl (Ch (by rfl) T.n_range (Aa (Aq (An (K:=K)) T.n_len boot_len (Aa (pv 1) Af)) Af)) (Ax (i:=2) G7.nd) (Ah (C5 PassesOwn.never rfl (Ch (by rfl) T.n_range (Aa (pv 2) Af)) (Ax (i:=3) G7.nd) (Ah (Ba (As Lo (A5 (Be (K:=K)) (A5 (A2 (K:=K)) (pv 0) (A5 (Be (K:=K)) (pv 1) (pv 2) (fun _ _=>rfl)) (fun _ _=>rfl)) (pv 3) (fun _ _=>rfl)) (A5 (Be (K:=K)) (A5 (A2 (K:=K)) (pv 0) (A5 (Be (K:=K)) (pv 1) (pv 3) (fun _ _=>rfl)) (fun _ _=>rfl)) (A6 Mr (pv 2) Aj) (fun _ _=>rfl)) (Aw _)) (Ah (At Cc)) Az)))))
    (Ah (At Cc))),?_⟩
   obtain⟨pa,rfl,hq⟩:=hv.sq;have hpl:(p.map V.int).length=p.length:=List.length_map ..;refine⟨_,rfl,pa,_,rfl,.inr hq,_,rfl,by omega,by omega,?_⟩;rw[hpl]
   refine Dv (lo:=0) (n:=((p.length:Nat):Int).toNat) (fun j σ H2=>H=H2/\(∃o2 o3,σ=[some (.ref a),some (.ref pa),o2,o3])/\∀j' i',j'<j->i'<j'->Ob xs p j' i'=true)
    ⟨rfl,⟨none,none,rfl⟩,fun j' i' h=>absurd h (by omega)⟩ ?_ ?_
   . rintro j σ H2 hj ⟨rfl,⟨o2,o3,rfl⟩,hall⟩;have hj':j<p.length:=by omega
     refine⟨_,rfl,_,rfl,by omega,by omega,?_⟩
     refine Dv (lo:=0) (n:=((0:Int)+(j:Int)).toNat) (fun i σ H2=>H=H2/\(∃o3,σ=[some (.ref a),some (.ref pa),some (.int (0+j)),o3])/\∀i',i'<i->Ob xs p j i'=true)
      ⟨rfl,⟨_,rfl⟩,fun i' h=>absurd h (by omega)⟩ ?_ ?_
     . rintro i σ H2 hi ⟨rfl,⟨o3,rfl⟩,hall2⟩;have hij:i<j:=by omega
       have mj:p.getD j 0∈p:=by rw[List.getD_eq_getElem?_getD,List.getElem?_eq_getElem hj'];exact List.getElem_mem _
       have mi:p.getD i 0∈p:=by rw[List.getD_eq_getElem?_getD,List.getElem?_eq_getElem (by omega)];exact List.getElem_mem _
       obtain⟨j0,j1,j2⟩:=hf _ mj;obtain⟨i0,i1,i2⟩:=hf _ mi;obtain⟨_,z,hq1,GR⟩:=TI.get (i:=(0:Int)+(j:Int)) hv (by omega) (by omega);cases z;rw[show((0:Int)+(j:Int)).toNat=j by omega]at GR;obtain⟨_,z,hq2,at2⟩:=TI.get (i:=(0:Int)+(i:Int)) hv (by omega) (by omega);cases z;rw[show((0:Int)+(i:Int)).toNat=i by omega]at at2;obtain⟨yE,v1,hu1,tX,oG⟩:=LT.get hL j0 j1;obtain⟨UM,v2,xJ,av2,YG⟩:=LT.get hL i0 i1;obtain⟨b1,e1,hb1,ab1⟩:=TI.get (i:=(0:Int)+(i:Int)) oG (by omega) (by omega);obtain⟨b2,e2,hb2,ab2⟩:=TI.get (i:=(0:Int)+(j:Int)-1) YG (by omega) (by omega);subst e1 e2;rw[show((0:Int)+(i:Int)).toNat=i by omega]at ab1;rw[show((0:Int)+(j:Int)-1).toNat=j-1 by omega]at ab2;refine⟨_,rfl,_,rfl,_,rfl,pa,_,_,_,rfl,rfl,hq1,GR,a,yE,_,_,rfl,rfl,hu1,tX,_,rfl,b1,_,_,_,rfl,rfl,hb1,ab1,?_⟩;refine⟨_,rfl,_,rfl,_,rfl,pa,_,_,_,rfl,rfl,hq2,at2,a,UM,_,_,rfl,rfl,xJ,av2,_,rfl,_,_,rfl,rfl,b2,_,_,_,rfl,rfl,hb2,ab2,?_⟩;refine⟨rfl,_,rfl,?_⟩;by_cases qU:(xs.getD (p.getD j 0).toNat []).getD i 0=(xs.getD (p.getD i 0).toNat []).getD (j-1) 0
       . refine Da (XX qU) ?_;refine⟨rfl,⟨_,rfl⟩,fun i' h=>?_⟩;by_cases hz:i'=i
         . subst hz;unfold Ob;exact decide_eq_true qU
         . exact hall2 i' (by omega)
       . refine Mc (yX qU) ?_
         have e2:E3 xs p=false:=by
          cases q:E3 xs p with
          | false=>rfl
          | true =>
            unfold E3 at q;rw[List.all_eq_true]at q;have q2:=q j (List.mem_range.mpr hj');rw[List.all_eq_true]at q2;have q3:=q2 i (List.mem_range.mpr hij);exact absurd (of_decide_eq_true q3) qU
         rw[e2]at k;exact k
     . rintro σ H2 ⟨rfl,⟨o3,rfl⟩,hall2⟩;refine⟨rfl,⟨_,_,rfl⟩,fun j' i' h1 h2=>?_⟩;by_cases hz:j'=j
       . subst hz;exact hall2 i' (by omega)
       . exact hall j' i' (by omega) h2
   . rintro σ H2 ⟨rfl,⟨o2,o3,rfl⟩,hall⟩
     have e2:E3 xs p=true:=by
      unfold E3;rw[List.all_eq_true];intro j hj;rw[List.all_eq_true];intro i hi;have:=List.mem_range.mp hj;exact hall j i (by omega) (List.mem_range.mp hi)
     rw[e2]at k;exact k
abbrev Jk:Stmt:=top 12
theorem b9:FnScope ["chain","place","number","total"] ["chain","place","number"] (Ai Jk):=A7
theorem IF{f:Addr}{fd:FuncData}(F:Fo K "add_at" "add_at" Jk f fd)(T:Ga K mg Al Am Ak Ab) :Bj P w K mg base Er 1 f fd ["chain","place","number"] (Jh K):=by
 refine F.ok b9 (fun vs H Q E h=>?_) (fun Cl A outer s H vs Q E hr h=>?_)
 . obtain⟨a,ms,k,n,rfl,ha,hl,kq⟩:=h;rfl
 . obtain⟨a,ms,k,n,rfl,ha,hl,kq⟩:=h;have Lu:=hr.u8
   refine⟨_,(Ag (Av (i:=3) b9.nd (A6 F2 (BO (u1 Lu) (pv 0) (pv 1) Aj ⟨by rfl,by rfl,by rfl,by rfl⟩) (pv 2)))
    (Ah (Ba (As Cq (pv 3) Aj (Aw _)) (Ah (Ck (LN (pv 0) (pv 1) Cu ⟨by rfl,by rfl,by rfl,by rfl⟩))) (Ah (U2 (u1 Lu) (pv 0) (pv 1) (pv 3) (by rfl)))))),?_⟩
   refine⟨_,rfl,a,rfl,.inl ⟨_,.inl ha⟩,_,rfl,_,gK (.inl ha),_,rfl,Au ms k,n,gP ms k,rfl,?_⟩;refine⟨_,rfl,rfl,_,rfl,?_⟩;refine ite2 (fun h1=>?_) (fun h1=>?_)
   . have e:Au ms k+n=0:=by simpa using h1
     unfold Gk at kq;rw[if_pos e]at kq;refine⟨_,rfl,a,rfl,.inl ⟨_,.inl ha⟩,_,rfl,cK ms,.inl k,ha,rfl,fun v hv=>?_,fun hn=>?_⟩
     . rw[GP];exact kq
     . rw[Jb]at hn;have hn':lookI ms k=none:=by simpa using hn
       have e2:J1 ms k=ms:=by
        unfold J1;rw[List.filter_eq_self];intro p hp
        have:¬p.1=k:=fun z=>by
         have h3:(ms.any fun p=>decide (p.1=k))=true:=List.any_eq_true.mpr ⟨p,hp,by simpa using z⟩;rw[gS]at h3;obtain⟨p',hp',e'⟩:=List.mem_map.mp h3;rw[←e']at hn'
         have:∀(ns:Ms),p'∈ns->lookI ns p'.1≠none:=by
          intro ns
          induction ns with
          | nil=>intro z;cases z
          | cons q ns ih =>
            intro hq;rw[B9];split
            . exact fun z=>by cases z
            . rename_i hne
              rcases List.mem_cons.mp hq with rfl | hq
              . exact absurd rfl hne
              . exact ih hq
         exact this ms hp' hn'
        simpa using this
       rw[e2,dH ha]at kq;exact kq
   . have e:¬Au ms k+n=0:=by simpa using h1
     unfold Gk at kq;rw[if_neg e]at kq;exact⟨_,rfl,_,rfl,_,rfl,a,_,rfl,U9 ha hl,kq⟩
abbrev Nu:Stmt:=top 13
theorem KY:FnScope ["number","chain"] ["number","chain"] (Ai Nu):=A7
theorem LR{f:Addr}{fd:FuncData}(F:Fo K "times" "times" Nu f fd)(T:Ga K mg Al Am Ak Ab) :Bj P w K mg base Er 1 f fd ["number","chain"] (Vf K):=by
 refine F.ok KY (fun vs H Q E h=>?_) (fun Cl A outer s H vs Q E hr h=>?_)
 . obtain⟨n,a,ms,rfl,ha,hm,hok,k⟩:=h;rfl
 . obtain⟨n,a,ms,rfl,ha,hm,hok,k⟩:=h
   refine⟨_,(Ag (Ba (As Cq (pv 0) Aj (Aw _)) (Ah (At Mq)) Az)
    (Ah (At (C7 (Xw (by rfl)) (by rfl) T.n_dict Fn (Aa (dX (Eb (N':=["place","old","number"]) (cap:=[none,none,some 0]) (by rfl) (by kernel_rfl) (Js (pv 1)) (fun _ _ _ _=>(El (K:=K) (n:=2) (by rfl) (Bi (Ax (i:=0) QO) (Bi (Ax (i:=1) QO) Ek)))) (fun _ _ _ _=>Ih) (fun _ _ _ _=>(By (Aa (pv 0) (Aa (A6 op_mulX (pv 2) (pv 1)) Af)))))) Af))))),?_⟩
   refine⟨_,rfl,rfl,_,rfl,?_⟩;refine ite2 (fun h1=>?_) (fun h1=>?_)
   . have e:n=0:=by simpa using h1
     intro D hD;refine k D _ hD (Same.new hD) ?_;rw[Ad];unfold Bg;rw[if_pos e];rfl
   have e:¬n=0:=by simpa using h1
   refine .inr ⟨a,cK ms,ha,fun hnd o=>?_⟩;refine⟨_,rfl,a,o,cK ms,rfl,Ad,fun D hD=>?_⟩;obtain⟨mW,SN⟩:=W5 hD
   refine Pq (d:=a) (o:=o) (kvs:=cK ms) (fun i zs τ H1=>∃ts:List Addr,zs=ts.map V.ref/\ts.length=i/\(∀(j:Nat) t,ts[j]?=some t->∃p:Int × Int,ms[j]?=some p/\H1 t=some (.tup [.int p.1,.int (n*p.2)])/\t≠D)/\H1 a=some (.frz o (.dK (cK ms)))/\H1 D=some (.lst zs)/\(∀c q,c≠a->H c=some q->H1 c=some q)/\∃o1 o2,τ=[o1,o2,some (.int n)])
    ⟨[],rfl,rfl,(fun j t z=>by simp at z),?_,Ad,?_,none,none,rfl⟩ (fun i zs τ H1 _ ⟨_,_,_,_,e,_⟩=>e) ?_ ?_
   . rw[Ae SN.symm];exact Ad
   . intro c q n1 e2;rw[Ae (Ap e2 mW),Ae n1];exact e2
   . rintro i kk x zs τ H1 p hx ⟨ts,rfl,kI,hts,ha1,L9,hk1,o1,o2,rfl⟩ hp;obtain⟨q,hq,rfl,rfl⟩:=Tg hx;have hlt:i<ms.length:=(List.getElem?_eq_some_iff.mp hq).1;have sp:Same H1 (upd H1 p (.tup [.int q.1,.int q.2])):=Same.new hp;refine⟨p,_,rfl,.of Ad,rfl,_,_,rfl,_,_,rfl,rfl,?_⟩;refine⟨_,rfl,_,rfl,_,rfl,_,_,rfl,rfl,hok q (List.mem_of_getElem? hq),Bc (by simp),fun t ht=>?_⟩;have st:=sp.trans (Same.new (o:=.tup [.int q.1,.int (n*q.2)]) ht);have vH:t≠D:=(Ap (sp _ _ L9) ht).symm;refine⟨st _ _ L9,Dg (by rw[List.length_map];omega),ts++[t],by simp,by simp[kI],fun j t' e2=>?_,?_,Ad,fun c r n1 e2=>?_,_,_,rfl⟩
     . rw[List.getElem?_append]at e2;split at e2
       . obtain⟨p',W3,h2',h3'⟩:=hts j t' e2;exact⟨p',W3,by rw[Ae h3'];exact st _ _ h2',h3'⟩
       . rename_i hj
         have hj0:j-ts.length=0:=by
          cases hz:j-ts.length with
          | zero=>rfl
          | succ m=>rw[hz]at e2;simp at e2
         rw[hj0]at e2;have et:t=t':=by simpa using e2
         subst et;refine⟨q,by rw[show j=i by omega];exact hq,?_,vH⟩;rw[Ae vH];exact Ad
     . rw[Ae SN.symm];exact st _ _ ha1
     . have:=hk1 c r n1 e2;rw[Ae (fun z=>by rw[z,mW]at e2;cases e2)];exact st _ _ this
   . rintro zs τ H1 ⟨ts,rfl,kI,hts,ha1,L9,hk1,_⟩;rw[Hv]at kI;refine⟨ha1,D,ts,cK (ms.map fun p=>(p.1,n*p.2)),rfl,(by rw[Ae SN];exact L9),(by rw[Hv,List.length_map];exact kI),fun i t e2=>?_,fun E hE=>?_⟩
     . obtain⟨p,W3,h2',_⟩:=hts i t e2;refine⟨(.inl p.1,.int (n*p.2)),?_,?_⟩
       . unfold cK;rw[List.getElem?_map,List.getElem?_map,W3];rfl
       . have yU:t≠a:=Dh h2' ha1 (fun z=>by cases z);rw[Ae yU];exact h2'
     . have s1:Same H (upd H1 a (.dK (cK ms))):=fun c q e2=>by
        by_cases z:c=a
        . subst z;rw[ha]at e2;cases e2;exact Ad
        . rw[Ae z];exact hk1 c q z e2
       refine k E _ (s1.free hE) (s1.trans (Same.new hE)) ?_;rw[Ad];have hnd':nd ms:=Qi.mp hnd;rw[Kr _ [] (by rw[List.nil_append];exact Qi.mpr (Kq hnd' n))];unfold Bg;rw[if_neg e,List.nil_append]
abbrev Cf:Stmt:=Gh (top 20) 0
theorem P9:FnScope ["self","place"] ["self","place"] (Ai Cf):=A7
theorem Qf{f:Addr}{fd:FuncData}(F:Fo K "__init__" "NoPiece.__init__" Cf f fd)(T:Ga K mg Al Am Ak Ab) :Bj P w K mg base Er 1 f fd ["self","place"] (Fz K Ak):=by
 refine F.ok P9 (fun vs H Q E h=>?_) (fun Cl A outer s H vs Q E hr h=>?_)
 . obtain⟨e,n,rfl,he,hn,k⟩:=h;rfl
 . obtain⟨e,n,rfl,he,hn,k⟩:=h
   refine⟨_,(Ag (Ck (pD (K:=K) (by rfl) T.m_HoleError T.bi_HoleError (Aa (pv 0) (Aa (FW (Nx V0 (Nx (LM (pv 1)) (Nx V0 LI)))) Af))))
    (Ah (RS (K:=K) (pv 0) (pv 1) (by rfl)))),?_⟩
   obtain⟨fi,Z⟩:=T.ec_NoPiece;refine⟨_,rfl,?_⟩;refine⟨_,rfl,KR,?_⟩;refine⟨_,rfl,.inl ⟨n,rfl,hn,fun z hz=>⟨_,rfl,hz,?_⟩⟩⟩;refine⟨_,rfl,KR,fun x hx=>?_⟩;refine⟨e,Ak,Al,fi,_,rfl,he,Z,?_⟩;refine⟨_,rfl,_,rfl,e,Ak,Al,fi,rfl,he,Z,T.ea_NoPiece_place.no,fun d hd=>?_⟩;exact k d hd
abbrev D9:Stmt:=top 24
theorem Yf:FnScope ["pieces"] ["pieces"] (Ai D9):=A7
theorem Yp{f:Addr}{fd:FuncData}(F:Fo K "check_size" "check_size" D9 f fd)(T:Ga K mg Al Am Ak Ab) :Bj P w K mg base (oK P w) 1 f fd ["pieces"] (Iv K Am):=by
 refine F.okX Yf (fun vs H Q E h=>?_) (fun Cl A outer s H vs Q E hr h=>?_)
 . obtain⟨a,us,rfl,hq,k1,k2⟩:=h;rfl
 . obtain⟨a,us,rfl,hq,k1,k2⟩:=h;obtain⟨Oo,O1⟩:=T.x_MOST_PIECES;refine⟨_,(Ah (Ba (As To (Aq (An (K:=K)) T.n_len boot_len (Aa (pv 0) Af)) (Qc (v:=.int 40) (by rfl) O1 ⟨_,rfl⟩) (Aw _)) (Ah (lC IV (by rfl) (by rfl) T.m_NoShape T.e_NoShape (Aa (FW (Nx V0 (Nx (LM (Qc (v:=.int 40) (by rfl) O1 ⟨_,rfl⟩)) (Nx V0 LI)))) Af))) Az)),?_⟩;refine⟨_,rfl,a,us,rfl,.inl hq,_,_,rfl,rfl,_,rfl,?_⟩;refine ite2 (fun h1=>?_) (fun h1=>?_)
   . have h2:40<us.length:=by
      have:(40:Int)<(us.length:Int):=by simpa using h1
      omega
     refine⟨_,rfl,by decide +kernel,.inl ⟨40,rfl,vP,fun x2 OH=>⟨_,rfl,OH,_,rfl,by decide +kernel,fun x3 hx3=>?_⟩⟩⟩;exact⟨Bc (by simp),k2 h2 H (Same.refl H)⟩
   . have h2:us.length<=40:=by
      have:¬(40:Int)<(us.length:Int):=by simpa using h1
      omega
     exact k1 h2
abbrev Gn:Stmt:=top 32
theorem dQ:FnScope ["chain","prime"] ["chain","prime"] (Ai Gn):=A7
theorem DY{f:Addr}{fd:FuncData}(F:Fo K "counted" "counted" Gn f fd)(T:Ga K mg Al Am Ak Ab) :Bj P w K mg base Er 1 f fd ["chain","prime"] (Kf K):=by
 refine F.ok dQ (fun vs H Q E h=>?_) (fun Cl A outer s H vs Q E hr h=>?_)
 . obtain⟨a,ms,p,rfl,ha,hm,vY,hp,k⟩:=h;rfl
 . obtain⟨a,ms,p,rfl,ha,hm,vY,hp,k⟩:=h;refine⟨_,(Ah (At (C7 (Xw (by rfl)) (by rfl) T.n_dict Fn (Aa (dX (Eb (N':=["place","number","prime"]) (cap:=[none,none,some 1]) (by rfl) (by kernel_rfl) (Js (pv 0)) (fun _ _ _ _=>(El (K:=K) (n:=2) (by rfl) (Bi (Ax (i:=0) qO) (Bi (Ax (i:=1) qO) Ek)))) (fun _ _ _ _=>(Fp (As Lo (A6 Bs (pv 1) (pv 2)) Aj (Aw _)))) (fun _ _ _ _=>(By (Aa (pv 0) (Aa (A6 Bs (pv 1) (pv 2)) Af)))))) Af)))),?_⟩;refine .inr ⟨a,cK ms,ha,fun hnd o=>?_⟩;refine⟨_,rfl,a,o,cK ms,rfl,Ad,fun D hD=>?_⟩;obtain⟨mW,SN⟩:=W5 hD
   refine Pq (d:=a) (o:=o) (kvs:=cK ms) (fun i zs τ H1=>∃ts:List Addr,zs=ts.map V.ref/\ts.length=(modI p (ms.take i)).length/\(∀(j:Nat) t,ts[j]?=some t->∃q:Int × Int,(modI p (ms.take i))[j]?=some q/\H1 t=some (.tup [.int q.1,.int q.2])/\t≠D)/\H1 a=some (.frz o (.dK (cK ms)))/\H1 D=some (.lst zs)/\(∀c q,c≠a->H c=some q->H1 c=some q)/\∃o1 o2,τ=[o1,o2,some (.int p)])
    ⟨[],rfl,rfl,(fun j t z=>by simp at z),?_,Ad,?_,none,none,rfl⟩ (fun i zs τ H1 _ ⟨_,_,_,_,e,_⟩=>e) ?_ ?_
   . rw[Ae SN.symm];exact Ad
   . intro c q n1 e2;rw[Ae (Ap e2 mW),Ae n1];exact e2
   . rintro i kk x zs τ H1 pr hx ⟨ts,rfl,kI,hts,ha1,L9,hk1,o1,o2,rfl⟩ JF;obtain⟨q,hq,rfl,rfl⟩:=Tg hx;have hlt:i<ms.length:=(List.getElem?_eq_some_iff.mp hq).1;have mt:=mod_take (p:=p) hq;have ml:(modI p (ms.take i)).length<=1000:=Nat.le_trans (GC ..) (by rw[List.length_take];omega);have sp:Same H1 (upd H1 pr (.tup [.int q.1,.int q.2])):=Same.new JF;refine⟨pr,_,rfl,.of Ad,rfl,_,_,rfl,_,_,rfl,rfl,?_⟩;refine⟨_,rfl,_,rfl,_,_,rfl,rfl,hp,rfl,_,rfl,?_⟩;refine ite2 (fun h1=>?_) (fun h1=>?_)
     . have e:¬q.2%p=0:=by simpa using h1
       rw[if_neg e]at mt;refine⟨_,rfl,_,rfl,_,rfl,_,_,rfl,rfl,hp,Bc (by simp),fun t ht=>?_⟩;have st:=sp.trans (Same.new (o:=.tup [.int q.1,.int (q.2%p)]) ht);have vH:t≠D:=(Ap (sp _ _ L9) ht).symm;refine⟨st _ _ L9,Dg (by rw[List.length_map];omega),ts++[t],by simp,by rw[mt];simp[kI],fun j t' e2=>?_,?_,Ad,fun c r n1 e2=>?_,_,_,rfl⟩
       . rcases Cv e2 with⟨hj,e2⟩|⟨hj,rfl⟩
         . obtain⟨p',W3,h2',h3'⟩:=hts j t' e2;exact⟨p',by rw[mt,List.getElem?_append_left (by omega)];exact W3,by rw[Ae h3'];exact st _ _ h2',h3'⟩
         . refine⟨(q.1,q.2%p),by rw[mt,hj,kI];simp,?_,vH⟩;rw[Ae vH];exact Ad
       . rw[Ae SN.symm];exact st _ _ ha1
       . have:=hk1 c r n1 e2;rw[Ae (fun z=>by rw[z,mW]at e2;cases e2)];exact st _ _ this
     . have e:q.2%p=0:=by simpa using h1
       rw[if_pos e]at mt;rw[←mt]at kI hts;refine⟨ts,rfl,kI,fun j t e2=>?_,sp _ _ ha1,sp _ _ L9,fun c r n1 e2=>sp _ _ (hk1 c r n1 e2),_,_,rfl⟩;obtain⟨p',W3,h2',h3'⟩:=hts j t e2;exact⟨p',W3,sp _ _ h2',h3'⟩
   . rintro zs τ H1 ⟨ts,rfl,kI,hts,ha1,L9,hk1,_⟩;rw[Hv,List.take_length]at kI hts;refine⟨ha1,D,ts,cK (modI p ms),rfl,(by rw[Ae SN];exact L9),(by rw[Hv];exact kI),fun i t e2=>?_,fun E hE=>?_⟩
     . obtain⟨q,W3,h2',_⟩:=hts i t e2;refine⟨(.inl q.1,.int q.2),?_,?_⟩
       . unfold cK;rw[List.getElem?_map,W3];rfl
       . have yU:t≠a:=Dh h2' ha1 (fun z=>by cases z);rw[Ae yU];exact h2'
     . have s1:Same H (upd H1 a (.dK (cK ms))):=fun c q e2=>by
        by_cases z:c=a
        . subst z;rw[ha]at e2;cases e2;exact Ad
        . rw[Ae z];exact hk1 c q z e2
       refine k E _ (s1.free hE) (s1.trans (Same.new hE)) ?_;rw[Ad,Kr _ [] (by rw[List.nil_append];exact Qi.mpr (MF vY)),List.nil_append]
abbrev Bz:Stmt:=Gh (top 34) 3
theorem Gb:FnScope ["self","edge"] ["self"] (Ai Bz):=A7
theorem Oe{f:Addr}{fd:FuncData}(F:Fo K "take_back" "Growth.take_back" Bz f fd)(T:Ga K mg Al Am Ak Ab) :Bj P w K mg base Er 1 f fd ["self"] (Vk K Ab):=by
 refine F.ok Gb (fun vs H Q E h=>?_) (fun Cl A outer s H vs Q E hr h=>?_)
 . obtain⟨g,pc,sh,ed,en,Z,p,xs,q,es,ss,bs,rfl,xz,k3⟩:=h;rfl
 . obtain⟨g,pc,sh,ed,en,Z,p,xs,q,es,ss,bs,rfl,xz,k3⟩:=h
   refine⟨_,(Ag (Ba (As Cq (Aq (An (K:=K)) T.n_len boot_len (Aa (Bk (K:=K) (pv 0)) Af)) Aj (Aw _)) (Ah Mo) Az)
    (Ag (Av (i:=1) Gb.nd (aE (K:=K) PySem.F.plainAttrs_list PySem.F.slot_list_pop PySem.F.type_list_pop EM (Bk (K:=K) (pv 0))))
    (Ag (Ba (As To (Aq Oa T.n_len boot_len (Aa (pv 1) Af)) Aj (Aw _)) (Ah (Ck (lO (Bk (K:=K) (pv 0)) (Aq (N9 (by rfl)) T.n_max Fm (Aa (pv 1) Af)) ⟨by rfl,by rfl,by rfl,by rfl⟩))) Az)
    (Ag (Ck (aE (K:=K) PySem.F.plainAttrs_list PySem.F.slot_list_pop PySem.F.type_list_pop EM (Bk (K:=K) (pv 0))))
    (Ah (At (aE (K:=K) PySem.F.plainAttrs_list PySem.F.slot_list_pop PySem.F.type_list_pop EM (Bk (K:=K) (pv 0))))))))),?_⟩
   have x:=xz.at_;obtain⟨dx,fs,hg,l1,l2,l3,l4,l5,lm⟩:=x.ob;obtain⟨us,Zi,r⟩:=x.pcs;have OI:us.length=xs.length+1:=by have:=r.length;simpa using this
   refine⟨_,rfl,g,Ab,dx,fs,_,rfl,hg,T.cl_Growth,T.na_Growth_pieces,l2,pc,us,rfl,.inl (.of Zi),rfl,_,rfl,?_⟩;rw[OI];refine Da (by simp;omega) ?_;obtain⟨OF,y,rfl,r0,ty⟩:=R5 r;obtain⟨wL,me,ee,hel⟩:=P7 (l:=es) (n:=xs.length) (by rw[x.gw.le];simp);subst ee;obtain⟨ss0,ms,es,hsl⟩:=P7 (l:=ss) (n:=xs.length) (by rw[x.gw.ls];simp);subst es;obtain⟨ds,Qq,dl,dg⟩:=x.eds.ex;obtain⟨cG,d,rfl,dl0,dg0,hd,nde⟩:=Tv dl dg;obtain⟨cs,hsh,cl,cg⟩:=x.shs.ex;obtain⟨cs0,c,rfl,cl0,cg0,hc,nce⟩:=Tv cl cg;obtain⟨okm,km⟩:=x.gw.eok wL.length me (by simp);obtain⟨n1,n2,n3⟩:=x.ne;have kJ:=x.ens;have gp:g≠pc:=Dh hg Zi (fun z=>by cases z);have gs:g≠sh:=Dh hg hsh (fun z=>by cases z);have ge:g≠ed:=Dh hg Qq (fun z=>by cases z);have gn:g≠en:=Dh hg kJ (fun z=>by cases z);have np:en≠pc:=Dh kJ Zi (fun z=>by cases z);have nsh:en≠sh:=Dh kJ hsh (fun z=>by cases z);have MD:en≠ed:=Dh kJ Qq (fun z=>by cases z);have dne:d≠ed:=Dh hd Qq (fun z=>by cases z);have put:=fun bs' gw=>x.put (us:=OF) (ds:=cG) (cs:=cs0) (xs':=xs) (es':=wL) (ss':=ss0) (bs':=bs') r0 dl0 dg0 cl0 cg0 gw;have xS:=fun bs' hb=>x.gw.back (bs':=bs') hb;have uK:=fun bs'=>Hz.four (pc:=pc) (sh:=sh) (ed:=ed) (en:=en) (o1:=.lst OF) (o2:=.lst (cs0.map V.ref)) (o3:=.lst (cG.map V.ref)) (o4:=.dK (cK bs')) (Same.refl H);refine⟨_,rfl,g,Ab,dx,fs,_,rfl,hg,T.cl_Growth,T.na_Growth_edges,l4,.inl ⟨rfl,_,.of Qq⟩,ed,_,_,rfl,rfl,Qq,(by rw[←He];exact AD _ _),?_⟩;rw[←He,List.dropLast_concat];have Ax0:H ed=some (.lst (cG.map V.ref++[.ref d])):=by rw[He];exact Qq
   refine Cm (fun σ' H'=>σ'=[some (.ref g),some (.ref d)]/\upd H ed (.lst (cG.map V.ref))=H') ?_ fun Hg=>Hg _ _ ⟨rfl,rfl⟩;rintro _ _ ⟨rfl,rfl⟩;refine Ar (t:=T8 _ _ _) (fun σ' H'=>σ'=[some (.ref g),some (.ref d)]/\∃bs',upd (upd H ed (.lst (cG.map V.ref))) en (.dK (cK bs'))=H'/\((me=[]/\bs'=bs)\/∃b,Nk me b/\bs'=J1 bs b)) ?_ fun key=>?_;rotate_left
   . refine⟨_,rfl,d,cK me,rfl,(by rw[Ae dne];exact hd),_,_,rfl,rfl,_,rfl,?_⟩;rw[Hv];by_cases hz:me=[]
     . refine Da (by simp[hz]) ?_;exact key _ _ ⟨rfl,bs,dH (by rw[Ae MD];exact kJ),.inl ⟨hz,rfl⟩⟩
     have hpos:=List.length_pos_iff.mpr hz;refine Mc (by simp;omega) ?_;refine⟨_,rfl,g,Ab,dx,fs,_,rfl,(by rw[Ae ge];exact hg),T.cl_Growth,T.na_Growth_enders,l5,en,rfl,.inl ⟨_,.inl (by rw[Ae MD];exact kJ)⟩,_,rfl,d,A3 me,cK me,rfl,(by rw[Ae dne];exact hd),U6 me,U5 hz,fun b hb1 hb2=>?_⟩;have tb:Nk me b:=⟨hb1,hb2⟩
     have hlk:lookI bs b=some (wL.length:Int):=(x.gw.bls b _).mpr ⟨wL.length,me,rfl,by simp,tb⟩;refine⟨cK bs,.inl b,.int (wL.length:Int),(by rw[Ae MD];exact kJ),rfl,by rw[Jb,hlk];rfl,?_⟩;rw[GP];exact key _ _ ⟨rfl,_,rfl,.inr ⟨b,tb,rfl⟩⟩
   rintro _ _ ⟨rfl,bs',rfl,hb⟩;have w:=put bs' (xS bs' hb);have f:=uK bs';rw[←oM n1 n2 n3 np nsh MD]at w f;refine⟨_,rfl,g,Ab,dx,fs,_,rfl,(by rw[Ae gn,Ae ge];exact hg),T.cl_Growth,T.na_Growth_sheets,l3,.inl ⟨rfl,_,.of (by rw[Ae nsh.symm,Ae n3];exact hsh)⟩,sh,_,_,rfl,rfl,(by rw[Ae nsh.symm,Ae n3];exact hsh),(by rw[←He];exact AD _ _),?_⟩;rw[←He,List.dropLast_concat];refine⟨_,rfl,g,Ab,dx,fs,_,rfl,(by rw[Ae gs,Ae gn,Ae ge];exact hg),T.cl_Growth,T.na_Growth_pieces,l2,.inl ⟨rfl,_,.of (by rw[Ae n1,Ae np.symm,Ae n2];exact Zi)⟩,pc,_,_,rfl,rfl,(by rw[Ae n1,Ae np.symm,Ae n2];exact Zi),AD _ _,?_⟩;rw[List.dropLast_concat];refine k3 y _ _ _ _ f (xz.after f w (D7.back x.gw xz.sht) (ds:=cG) (cs:=cs0) ?_ ?_ (fun d hd=>xz.ze _ Qq d (List.mem_append_left _ hd)) (fun c hc=>xz.zs _ hsh c (List.mem_append_left _ hc))) (Rep.t (f.t x) (aI q) ty)
   . rw[Ae n2.symm,Ae n3.symm,Ae MD.symm];exact Ad
   . rw[Ae n1.symm];exact Ad
abbrev Cz:Stmt:=Gh (top 34) 4
theorem Uc:FnScope ["self"] ["self"] (Ai Cz):=A7
theorem Uh{f:Addr}{fd:FuncData}(F:Fo K "shape" "Growth.shape" Cz f fd)(T:Ga K mg Al Am Ak Ab) :Bj P w K mg base Er 1 f fd ["self"] (Rt K Ab):=by
 refine F.ok Uc (fun vs H Q E h=>?_) (fun Cl A outer s H vs Q E hr h=>?_)
 . obtain⟨g,pc,sh,ed,en,p,xs,es,ss,bs,rfl,x,k⟩:=h;rfl
 . obtain⟨g,pc,sh,ed,en,p,xs,es,ss,bs,rfl,x,k⟩:=h;refine⟨_,(Ah (At (C7 (Oq (K:=K)) (by rfl) T.n_list Pw (Aa (Bk (K:=K) (pv 0)) Af)))),?_⟩;obtain⟨dx,fs,hg,l1,l2,l3,l4,l5,lm⟩:=x.ob;obtain⟨us,Zi,r⟩:=x.pcs;exact⟨_,rfl,g,Ab,dx,fs,_,rfl,hg,T.cl_Growth,T.na_Growth_pieces,l2,pc,us,rfl,.inl (.of Zi),fun l hl=>k l us _ hl (Same.new hl) Ad (Reps.same (Same.new hl) r)⟩
abbrev C3:Stmt:=Gh (top 34) 6
theorem Ue:FnScope ["self"] ["self"] (Ai C3):=A7
theorem Uj{f:Addr}{fd:FuncData}(F:Fo K "pairs" "Growth.pairs" C3 f fd)(T:Ga K mg Al Am Ak Ab) :Bj P w K mg base Er 1 f fd ["self"] (Nr K Ab):=by
 refine F.ok Ue (fun vs H Q E h=>?_) (fun Cl A outer s H vs Q E hr h=>?_)
 . obtain⟨g,pc,sh,ed,en,p,xs,es,ss,bs,rfl,x,k⟩:=h;rfl
 . obtain⟨g,pc,sh,ed,en,p,xs,es,ss,bs,rfl,x,k⟩:=h;have Lu:=hr.u8;refine⟨_,(Ah (At (Eb (N':=["birth","edge","self"]) (cap:=[none,none,some 0]) (by rfl) (by kernel_rfl) (oY (K:=K) (by rfl) T.n_enumerate (Aa (Bk (K:=K) (pv 0)) Af)) (fun _ _ _ _=>(El (K:=K) (n:=2) (by rfl) (Bi (Ax (i:=0) QN) (Bi (Ax (i:=1) QN) Ek)))) (fun _ _ _ _=>(Fp (As Cq (Aq Oa T.n_len boot_len (Aa (pv 1) Af)) Aj (Aw _)))) (fun _ _ _ _=>(By (Aa (pv 0) (Aa (bP (u1 Lu) (Bk (K:=K) (pv 2)) (pv 0) ⟨by rfl,by rfl,by rfl,by rfl⟩) Af))))))),?_⟩;obtain⟨dx,fs,hg,l1,l2,l3,l4,l5,lm⟩:=x.ob;obtain⟨ds,Qq,dl,dg⟩:=x.eds.ex;have At4:es.length<=40:=by rw[x.gw.le];exact x.gw.n40
   refine⟨_,rfl,g,Ab,dx,fs,_,rfl,hg,T.cl_Growth,T.na_Growth_edges,l4,ed,rfl,⟨_,.of Qq⟩,fun D hD=>?_⟩
   refine jV (K:=K) (a:=ed) (xs:=ds.map V.ref) (fun i ys τ G=>i<=es.length/\Same H G/\G D=some (.lst ys)/\Reps K G ys (F1 es bs i)/\∃o1 o2,τ=[o1,o2,some (.ref g)])
    ⟨Nat.zero_le _,Same.new hD,Ad,rfl,none,none,rfl⟩ (fun i ys τ G _ ⟨_,g1,_⟩=>.of (g1 _ _ Qq)) ?_ ?_
   . rintro i y ys τ G pr hy ⟨hi,g1,Hy,ry,o1,o2,rfl⟩ hp;have hid:i<ds.length:=by have:=(List.getElem?_eq_some_iff.mp hy).1;simpa using this
     have XN:i<es.length:=by omega
     have hem:es[i]?=some (es.getD i []):=Px XN;have hdi:ds[i]?=some ds[i]:=List.getElem?_eq_getElem hid;obtain⟨uI,nde⟩:=dg i _ _ hdi hem
     have sW:y=.ref ds[i]:=by
      rw[List.getElem?_map,hdi]at hy;exact(Option.some.inj hy).symm
     subst sW;have yl:ys.length<=i:=by have:=ry.length;rw[this];exact DX ..
     have sp:=Same.new (o:=.tup [.int (i:Int),.ref ds[i]]) hp;have g2:=g1.trans sp;refine⟨pr,_,rfl,.of Ad,rfl,_,_,rfl,_,_,rfl,rfl,?_⟩;generalize upd G pr (.tup [.int (i:Int),.ref ds[i]])=G1 at sp g2 ⊢;have WG:=sp _ _ Hy;refine⟨_,rfl,_,cK (es.getD i []),rfl,g2 _ _ uI,rfl,_,rfl,?_⟩;rw[Hv];have XZ:=Xx es i;refine ite2 (fun h1=>?_) (fun h1=>?_)
     . have h2:es.getD i []=[]:=by
        have:((es.getD i []).length:Int)=0:=by simpa using h1
        exact List.length_eq_zero_iff.mp (by omega)
       rw[if_pos h2]at XZ;refine⟨_,rfl,_,rfl,g,Ab,dx,fs,_,rfl,g2 _ _ hg,T.cl_Growth,T.na_Growth_enders,l5,en,rfl,.inl ⟨_,.inl (g2 _ _ x.ens)⟩,_,rfl,(lookI bs (i:Int)).map V.int,.inl ⟨cK bs,.inl (i:Int),.inl (g2 _ _ x.ens),rfl,(Jb _ _).symm⟩,?_⟩;rw[GH];refine⟨Bc (by simp),fun t ht=>?_⟩;have st:=Same.new (o:=.tup [.int (i:Int),Ma bs (i:Int)]) ht;have et:upd G1 t (.tup [.int (i:Int),Ma bs (i:Int)]) t=some (.tup [.int (i:Int),Ma bs (i:Int)]):=Ad;generalize upd G1 t (.tup [.int (i:Int),Ma bs (i:Int)])=G2 at st et ⊢;have MV:=st _ _ WG;refine⟨MV,Dg (by omega),by omega,(g2.trans st).turn hD,Ad,?_,_,_,rfl⟩;have e:F1 es bs (i+1)=F1 es bs i++[B7 bs i]:=by unfold F1;rw[XZ,List.map_append];rfl
       rw[e];refine Reps.t (E8.lst MV) ?_ (Reps.append (Reps.same (sp.trans st) ry) ⟨_,_,rfl,⟨t,_,rfl,.of et,⟨_,_,rfl,rfl,⟨_,_,rfl,fU _ _,rfl⟩⟩⟩,rfl⟩);have:=Hd bs (Bf es i++[i]);rw[List.map_append]at this;exact this
     . have h2:¬es.getD i []=[]:=fun z=>h1 (by rw[z];rfl);rw[if_neg h2]at XZ;refine⟨by omega,g2,WG,?_,_,_,rfl⟩;have e:F1 es bs (i+1)=F1 es bs i:=by unfold F1;rw[XZ]
       rw[e];exact Reps.same sp ry
   . rintro ys τ G ⟨hi,g1,Hy,ry,_⟩;rw[List.length_map,dl]at ry;exact k D ys G hD g1 Hy ry
abbrev Ff:Stmt:=top 35
theorem BI:FnScope ["pair","stage"] ["pair","stage"] (Ai Ff):=A7
theorem BS{f:Addr}{fd:FuncData}(F:Fo K "is_alive" "is_alive" Ff f fd)(T:Ga K mg Al Am Ak Ab) :Bj P w K mg base Er 1 f fd ["pair","stage"] (Rl K):=by
 refine F.ok BI (fun vs H Q E h=>?_) (fun Cl A outer s H vs Q E hr h=>?_)
 . obtain⟨t,bs,j,st,rfl,ht,k⟩:=h;rfl
 . obtain⟨t,bs,j,st,rfl,ht,k⟩:=h;refine⟨_,(Ah (At (Ix (Ec Ij (A5 (Be (K:=K)) (pv 0) Aj (fun _ _=>rfl)) (pv 1) (Aw _)) (Hc (qN (Ec Pc (A5 (Be (K:=K)) (pv 0) Aj (fun _ _=>rfl)) Cu (Aw _)) (Hc (Ec FY (A5 (Be (K:=K)) (pv 0) Aj (fun _ _=>rfl)) (pv 1) (Aw _)))))))),?_⟩;refine⟨_,rfl,t,_,_,_,rfl,rfl,ht,TX _ _,_,rfl,_,_,rfl,rfl,_,rfl,?_⟩;unfold aliveB at k;refine ite2 (fun h=>?_) (fun h=>?_);rotate_left
   . rw[Bool.eq_false_iff.mpr h]at k;simpa using k
   rw[h]at k;refine⟨_,rfl,t,_,_,_,rfl,rfl,ht,GR _ _ _,rfl,_,rfl,?_⟩;unfold Ma at ht ⊢;cases hl:lookI bs (j:Int) with
   | none =>
     rw[hl]at k;refine ite2 (fun h2=>?_) (fun h2=>absurd (by simp) h2);exact k
   | some e =>
     rw[hl]at k ht;refine ite2 (fun h2=>absurd h2 (by simp)) (fun h2=>?_);refine⟨_,rfl,t,_,_,_,rfl,rfl,ht,GR _ _ _,_,rfl,_,_,rfl,rfl,?_⟩;exact k
abbrev Go:Stmt:=top 37
theorem DQ:FnScope ["_law_found"] ["_law_found"] (Ai Go):=A7
theorem dZ{f:Addr}{fd:FuncData}(F:Fo K "_law_whole" "_law_whole" Go f fd)(T:Ga K mg Al Am Ak Ab) :Bj P w K mg base Er 1 f fd ["_law_found"] (D0 K):=by
 refine F.ok DQ (fun vs H Q E h=>?_) (fun Cl A outer s H vs Q E hr h=>?_)
 . obtain⟨x,d,rfl,hx,k⟩:=h;rfl
 . obtain⟨x,d,rfl,hx,k⟩:=h;refine⟨_,(Ah (At (Ix (Aq (Ed (K:=K)) T.n_isinstance Bo (Aa (pv 0) (Aa (Ge (v:=.ty "int") rfl T.n_int boot_intT rfl) Af))) (Hc (LK (Aq (Ed (K:=K)) T.n_isinstance Bo (Aa (pv 0) (Aa (Ge (v:=.ty "bool") rfl T.n_bool Xy rfl) Af)))))))),?_⟩;refine⟨_,rfl,_,_,d,rfl,.inl rfl,hx,_,rfl,?_⟩;refine ite2 (fun e=>?_) (fun e=>?_)
   . refine⟨_,rfl,_,_,d,rfl,.inr (.inl rfl),hx,_,rfl,?_⟩;have e2:Cw d=!U7 "bool" d:=by unfold Cw;rw[e];rfl
     rw[e2]at k;exact k
   . have e2:Cw d=false:=by unfold Cw;simp[e]
     rw[e2]at k;exact k
abbrev Ev:Stmt:=top 38
theorem u7:FnScope ["_law_script","_law_k"] ["_law_script","_law_k"] (Ai Ev):=A7
theorem y4{f:Addr}{fd:FuncData}(F:Fo K "_law_cell_at" "_law_cell_at" Ev f fd)(T:Ga K mg Al Am Ak Ab) :Bj P w K mg base Er 1 f fd ["_law_script","_law_k"] (Kh K):=by
 refine F.ok u7 (fun vs H Q E h=>?_) (fun Cl A outer s H vs Q E hr h=>?_)
 . obtain⟨a,ns,k,rfl,hS,h0,hl,kq⟩:=h;rfl
 . obtain⟨a,ns,k,rfl,hS,h0,hl,kq⟩:=h
   refine⟨_,(Ag (Ba (As Ij (pv 1) (Aq (An (K:=K)) T.n_len boot_len (Aa (pv 0) Af)) (Aw _)) (Ah (At (A5 (A2 (K:=K)) (pv 0) (pv 1) (fun _ _=>rfl)))) Az)
    (Ah (At Aj))),?_⟩
   refine⟨_,rfl,_,rfl,a,_,rfl,.inl hS,_,_,rfl,rfl,_,rfl,?_⟩;refine ite2 (fun h1=>?_) (fun h1=>?_)
   . have h2:k<(ns.length:Int):=by simpa using h1
     have e:Uw (ns.map V.int) k=some (.int (Xp ns k)):=by
      obtain⟨j,rfl⟩:=Int.eq_ofNat_of_zero_le h0;refine Ft ?_;have hj:j<ns.length:=by omega
      rw[List.getElem?_map,List.getElem?_eq_getElem hj];simp[Xp,hj]
     exact⟨_,rfl,_,rfl,a,_,k,_,rfl,rfl,hS,e,kq⟩
   . have h2:¬k<(ns.length:Int):=by simpa using h1
     have e:Xp ns k=0:=by
      unfold Xp;have:ns.length<=k.toNat:=by omega
      simp[this]
     rw[e]at kq;exact kq
abbrev Gu:Stmt:=top 39
theorem dR:FnScope ["_law_piece"] ["_law_piece"] (Ai Gu):=A7
theorem EC{f:Addr}{fd:FuncData}(F:Fo K "_law_level" "_law_level" Gu f fd)(T:Ga K mg Al Am Ak Ab) :Bj P w K mg base Er 1 f fd ["_law_piece"] (B2 K):=by
 refine F.ok dR (fun vs H Q E h=>?_) (fun Cl A outer s H vs Q E hr h=>?_)
 . obtain⟨x,ds,rfl,hx,k⟩:=h;rfl
 . obtain⟨x,ds,rfl,hx,k⟩:=h;refine⟨_,(Ah (At (Aq (j6 (by rfl)) T.n_max Fm (Aa Aj (Aa (A6 Mr (Aq (An (K:=K)) T.n_len boot_len (Aa (pv 0) Af)) Aj) Af))))),?_⟩
   obtain⟨p,us,e,hq,hl⟩:∃(p:Addr) (us:List V),x=.ref p/\(SqL K H p us\/Dw K H p us)/\us.length=ds.length:=by
    rcases hx with⟨p,us,e,hq,r⟩|⟨p,us,e,hq,r⟩
    . exact⟨p,us,e,.inl hq,r.length⟩
    . exact⟨p,us,e,.inr hq,r.length⟩
   subst e;refine⟨_,rfl,p,us,rfl,hq,_,_,rfl,rfl,_,_,rfl,?_⟩;rw[hl];rw[show(if ((ds.length:Nat):Int)-1 > 0 then((ds.length:Nat):Int)-1 else 0)=Bq ds.length by unfold Bq;split<;>split<;>omega];exact k
abbrev Gr:Stmt:=top 40
theorem Vs:FnScope ["_law_pieces","_law_faces","_law_face","_law_i"] ["_law_pieces","_law_faces","_law_face"] (Ai Gr):=A7
theorem EB{f:Addr}{fd:FuncData}(F:Fo K "_law_meets" "_law_meets" Gr f fd)(T:Ga K mg Al Am Ak Ab) :Bj P w K mg base Er 1 f fd ["_law_pieces","_law_faces","_law_face"] (No K):=by
 refine F.ok Vs (fun vs H Q E h=>?_) (fun Cl A outer s H vs Q E hr h=>?_)
 . obtain⟨a,v,xs,fs,f0,rfl,hL,hv,f1,f2,hg,hf4,QT,k⟩:=h;rfl
 . obtain⟨a,v,xs,fs,f0,rfl,hL,hv,f1,f2,hg,hf4,QT,k⟩:=h
   refine⟨_,(Ag (Ba (As Cq (Aq (An (K:=K)) T.n_len boot_len (Aa (A5 (A2 (K:=K)) (pv 0) (pv 2) (fun _ _=>rfl)) Af)) Aj (Aw _)) (Ah (At Cc)) Az)
    (Ag (C5 PassesOwn.never rfl (Ch (by rfl) T.n_range (Aa (Aq (An (K:=K)) T.n_len boot_len (Aa (pv 1) Af)) Af)) (Ax (i:=3) Vs.nd) (Ah (Ba (As Lo (A5 (Be (K:=K)) (A5 (A2 (K:=K)) (pv 0) (pv 2) (fun _ _=>rfl)) (pv 3) (fun _ _=>rfl)) (A5 (Be (K:=K)) (A5 (A2 (K:=K)) (pv 0) (A5 (Be (K:=K)) (pv 1) (pv 3) (fun _ _=>rfl)) (fun _ _=>rfl)) (A6 Mr (Aq (An (K:=K)) T.n_len boot_len (Aa (pv 1) Af)) Aj) (fun _ _=>rfl)) (Aw _)) (Ah (At Cc)) Az)))
    (Ah (At Cc)))),?_⟩
   obtain⟨xu,vx,XI,hvx,tvx⟩:=LT.get hL f1 f2;obtain⟨ax,rfl,sqx⟩:=TI.sq tvx;obtain⟨af,rfl,RM⟩:=TI.sq hv;refine⟨_,rfl,_,rfl,a,xu,_,_,rfl,rfl,XI,hvx,ax,_,rfl,.inr sqx,rfl,_,rfl,?_⟩;rw[List.length_map];refine ite2 (fun h1=>?_) (fun h1=>?_)
   . have hz:(xs.getD f0.toNat []).length=0:=by
      have:((xs.getD f0.toNat []).length:Int)=0:=by simpa using h1
      omega
     have e:meetsB xs fs f0=true:=by unfold meetsB;rw[decide_eq_true hz];rfl
     rw[e]at k;exact k
   have hne:¬(xs.getD f0.toNat []).length=0:=fun z=>h1 (by rw[z];rfl);obtain⟨c1,c2⟩:=QT.resolve_left hne;have em:meetsB xs fs f0=(List.range fs.length).all fun i=>decide ((xs.getD f0.toNat []).getD i 0=(xs.getD (fs.getD i 0).toNat []).getD (fs.length-1) 0):=by unfold meetsB;rw[decide_eq_false hne];rfl
   refine⟨_,rfl,af,_,rfl,.inr RM,_,rfl,by rw[List.length_map];omega,by rw[List.length_map];omega,?_⟩;rw[List.length_map];refine Dv (lo:=0) (n:=fs.length) (fun i σ G=>∃o3,σ=[some (.ref a),some (.ref af),some (.int f0),o3]/\H=G/\∀i',i'<i->(xs.getD f0.toNat []).getD i' 0=(xs.getD (fs.getD i' 0).toNat []).getD (fs.length-1) 0) ⟨_,rfl,rfl,fun i' h=>absurd h (by omega)⟩ ?_ ?_
   . rintro i σ G hi ⟨o3,rfl,rfl,hall⟩;rw[show(0:Int)+(i:Int)=(i:Int) by omega];have hgm:=D4 (d:=0) hi;obtain⟨g0,g1⟩:=hg _ hgm;have c3:=c2 _ hgm
     have zT:Uw (fs.map V.int) (i:Int)=some (.int (fs.getD i 0)):=by
      have:=Ni (sp:=fs) (x:=(i:Int)) (by omega) (by omega)
      rwa [Int.toNat_natCast]at this
     have ZR:Uw ((xs.getD f0.toNat []).map V.int) (i:Int)=some (.int ((xs.getD f0.toNat []).getD i 0)):=by
      have:=Ni (sp:=xs.getD f0.toNat []) (x:=(i:Int)) (by omega) (by omega)
      rwa [Int.toNat_natCast]at this
     have ZS:Uw ((xs.getD (fs.getD i 0).toNat []).map V.int) ((fs.length:Int)-1)=some (.int ((xs.getD (fs.getD i 0).toNat []).getD (fs.length-1) 0)):=by
      have:=Ni (sp:=xs.getD (fs.getD i 0).toNat []) (x:=(fs.length:Int)-1) (by omega) (by omega)
      rwa [show((fs.length:Int)-1).toNat=fs.length-1 by omega]at this
     obtain⟨gu,vg,hgq,hvg,tvg⟩:=LT.get hL g0 g1;obtain⟨ag,rfl,sqg⟩:=TI.sq tvg;refine⟨_,rfl,_,rfl,a,xu,_,_,rfl,rfl,XI,hvx,_,rfl,ax,_,_,_,rfl,rfl,sqx,ZR,_,rfl,_,rfl,_,rfl,af,_,_,_,rfl,rfl,RM,zT,a,gu,_,_,rfl,rfl,hgq,hvg,_,rfl,af,_,rfl,.inr RM,_,_,rfl,rfl,ag,_,_,_,rfl,rfl,sqg,(by rw[List.length_map];exact ZS),rfl,_,rfl,?_⟩;by_cases he:(xs.getD f0.toNat []).getD i 0=(xs.getD (fs.getD i 0).toNat []).getD (fs.length-1) 0
     . refine Da (XX he) ?_;refine⟨_,rfl,rfl,fun i' hi'=>?_⟩;by_cases z:i'=i
       . subst z;exact he
       . exact hall i' (by omega)
     . refine Mc (yX he) ?_
       have e:meetsB xs fs f0=false:=by
        rw[em,List.all_eq_false];exact⟨i,List.mem_range.mpr hi,by simpa using he⟩
       rw[e]at k;exact k
   . rintro σ G ⟨o3,rfl,rfl,hall⟩
     have e:meetsB xs fs f0=true:=by
      rw[em,List.all_eq_true];exact fun i hi=>decide_eq_true (hall i (List.mem_range.mp hi))
     rw[e]at k;exact k
abbrev Jm:Stmt:=top 42
theorem c6:FnScope ["_law_cell","_law_j","_law_many","_law_mixed"] ["_law_cell","_law_j","_law_many"] (Ai Jm):=A7
theorem IG{f:Addr}{fd:FuncData}(F:Fo K "_law_pick" "_law_pick" Jm f fd)(T:Ga K mg Al Am Ak Ab) :Bj P w K mg base Er 1 f fd ["_law_cell","_law_j","_law_many"] (Np K):=by
 refine F.ok c6 (fun vs H Q E h=>?_) (fun Cl A outer s H vs Q E hr h=>?_)
 . obtain⟨c,j,m,rfl,hm,k⟩:=h;rfl
 . obtain⟨c,j,m,rfl,hm,k⟩:=h
   refine⟨_,(Ag (Av (i:=3) c6.nd (A6 op_mulX (A6 F2 (A6 Bs (pv 0) Aj) Aj) (A5 (Be (K:=K)) (By (Aa Aj (Aa Aj (Aa Aj (Aa Aj Af))))) (A6 Bs (pv 1) Aj) (fun _ _=>rfl))))
    (Ah (At (A6 Bs (A6 Bs (pv 3) (A5 (Be (K:=K)) (By (Aa Aj (Aa Aj (Aa Aj (Aa Aj Af))))) (A6 Bs (pv 1) Aj) (fun _ _=>rfl))) (pv 2))))),?_⟩
   have p4:(0:Int)<4:=by decide
   have c0:=Int.emod_nonneg c (show(1000003:Int)≠0 by decide);have c1:=Int.emod_lt_of_pos c (show(0:Int)<1000003 by decide);have j0:=Int.emod_nonneg j (show(4:Int)≠0 by decide);have j1:=Int.emod_lt_of_pos j p4
   have four:∀a b c d:Int,0<a->0<b->0<c->0<d->a<100000->b<100000->c<100000->d<100000->∃x:Int,Uw [V.int a,V.int b,V.int c,V.int d] (j%4)=some (.int x)/\0<x/\x<100000:=fun a b c d a0 b0 c0 d0 a1 b1 c1 d1=>by
    rcases (show j%4=0\/j%4=1\/j%4=2\/j%4=3 by omega) with e | e | e | e<;>rw[e]
    . exact⟨a,rfl,a0,a1⟩
    . exact⟨b,rfl,b0,b1⟩
    . exact⟨c,rfl,c0,c1⟩
    . exact⟨d,rfl,d0,d1⟩
   refine Ar (fun σ' H'=>∃x:Int,σ'=[some (.int c),some (.int j),some (.int m),some (.int x)]/\Same H H') ?_ fun key=>?_;rotate_left
   . refine⟨_,rfl,_,_,rfl,rfl,(by show(0:Int)<1000003;decide),_,_,rfl,rfl,Bc (by simp),fun T1 hT1=>?_⟩;obtain⟨x,hx,x0,x1⟩:=four 48271 69621 16807 39373 (by decide) (by decide) (by decide) (by decide) (by decide) (by decide) (by decide) (by decide);refine⟨_,rfl,_,_,rfl,rfl,p4,T1,_,_,_,rfl,rfl,.of Ad,hx,_,_,rfl,rfl,My (by omega) (by omega),?_⟩;exact key _ _ ⟨_,rfl,Same.new hT1⟩
   rintro _ H1 ⟨x,rfl,s1⟩;refine⟨_,rfl,Bc (by simp),fun T1 hT1=>?_⟩;obtain⟨y,hy,y0,y1⟩:=four 65537 50021 99991 32749 (by decide) (by decide) (by decide) (by decide) (by decide) (by decide) (by decide) (by decide);refine⟨_,rfl,_,_,rfl,rfl,p4,T1,_,_,_,rfl,rfl,.of Ad,hy,_,_,rfl,rfl,y0,_,rfl,_,_,rfl,rfl,hm,?_⟩;exact k _ _ (s1.trans (Same.new hT1)) (Int.emod_nonneg _ (by omega)) (Int.emod_lt_of_pos _ hm)
abbrev Gq:Stmt:=top 45
theorem Vr:FnScope ["_law_cell","_law_primes"] ["_law_cell"] (Ai Gq):=A7
theorem EA{f:Addr}{fd:FuncData}(F:Fo K "_law_prime" "_law_prime" Gq f fd)(T:Ga K mg Al Am Ak Ab) :Bj P w K mg base Er 1 f fd ["_law_cell"] (Mg K):=by
 refine F.ok Vr (fun vs H Q E h=>?_) (fun Cl A outer s H vs Q E hr h=>?_)
 . obtain⟨c,rfl,k⟩:=h;rfl
 . obtain⟨c,rfl,k⟩:=h
   refine⟨_,(Ag (LB (N':=["_law_n"]) (cap:=[none]) (xc:="_law_n") (i:=1) Vr.nd (by rfl) (by first | exact Or.inl rfl | exact Or.inr rfl) (by rfl) (by kernel_rfl) (fun _ _=>rfl) (fun _=>rfl) (Sa (by rfl) T.n_range (Aa Aj (Aa Aj Af))) (fun _ _ _ _ _=>(Ax (i:=0) SK)) (fun _ _ _ _ _=>(Fp (As Cq (Aq (An (K:=K)) T.n_len boot_len (Aa (Eb (N':=["_law_k","_law_n"]) (cap:=[none,some 0]) (by rfl) (by kernel_rfl) (Sa (by rfl) T.n_range (Aa Aj (Aa (pv 0) Af))) (fun _ _ _ _=>(Ax (i:=0) SJ)) (fun _ _ _ _=>(Fp (As Cq (A6 Bs (pv 1) (pv 0)) Aj (Aw _)))) (fun _ _ _ _=>(pv 0))) Af)) Aj (Aw _)))) (fun _ _ _ _ _=>(pv 0)))
    (Ag (Ba (As Cq (A6 Bs (pv 0) Aj) Aj (Aw _)) (Ah (At (A5 (A2 (K:=K)) (pv 1) (A6 Bs (A6 Ik (pv 0) Aj) Aj) (fun _ _=>rfl)))) Az)
    (Ah (At (A5 (A2 (K:=K)) (pv 1) (A6 Bs (A6 Ik (pv 0) Aj) Aj) (fun _ _=>rfl)))))),?_⟩
   refine Ar (fun σ' H'=>∃(P:Addr),σ'=[some (.int c),some (.ref P)]/\Same H H'/\H' P=some (.lst ((prs 96).map V.int))) ?_ fun key=>?_;rotate_left
   . refine⟨_,_,rfl,⟨by decide,by decide,by decide,by decide⟩,fun D hD=>?_⟩
     refine Hs (fun i ys τ H1=>i<=96/\Same H H1/\H1 D=some (.lst ys)/\ys=(prs i).map V.int/\∃o,τ=[o])
      ⟨Nat.zero_le _,Same.new hD,Ad,rfl,none,rfl⟩ ?_ ?_
     . rintro i ys τ H1 hi ⟨_,s1,L9,hys,o,rfl⟩;have Aw2:i<96:=hi;refine⟨_,rfl,_,_,rfl,⟨by decide,by decide,by omega,by omega⟩,fun D2 wH=>?_⟩
       refine Hs (fun j zs τ' H2=>j<=i/\Same H1 H2/\H2 D2=some (.lst zs)/\zs=(dvs (2+(i:Int)) j).map V.int/\∃o,τ'=[o,some (.int (2+(i:Int)))])
        ⟨Nat.zero_le _,Same.new wH,Ad,rfl,none,rfl⟩ ?_ ?_
       . rintro j zs τ' H2 hj ⟨_,s2,pY,hzs,o',rfl⟩;have hji:j<i:=by omega
         refine⟨_,rfl,_,rfl,_,_,rfl,rfl,(by show(0:Int)<2+(j:Int);omega),rfl,_,rfl,?_⟩;have zl:zs.length<=j:=by rw[hzs,List.length_map];exact QC ..
         refine ite2 (fun h1=>?_) (fun h1=>?_)
         . have h2:(2+(i:Int))%(2+(j:Int))=0:=by simpa using h1
           refine⟨_,rfl,pY,Dg (by omega),by omega,s2.turn wH,Ad,?_,_,rfl⟩;rw[CF,if_pos h2,List.map_append,hzs];rfl
         . have h2:¬(2+(i:Int))%(2+(j:Int))=0:=by simpa using h1
           refine⟨by omega,s2,pY,?_,_,rfl⟩;rw[CF,if_neg h2];exact hzs
       . rintro zs τ' H2 ⟨_,s2,pY,hzs,_⟩;refine⟨D2,zs,rfl,.inl (.of pY),rfl,_,rfl,?_⟩;have UI:=s2 _ _ L9;have yl:ys.length<=i:=by rw[hys,List.length_map];exact OV ..
         have hz:(zs.length=0)↔SS (2+(i:Int))=true:=by
          rw[←nE,hzs,List.length_map,show(2+(i:Int)-2).toNat=i by omega]
         refine ite2 (fun h1=>?_) (fun h1=>?_)
         . have h2:zs.length=0:=by
            have:(zs.length:Int)=0:=by simpa using h1
            omega
           refine⟨_,rfl,UI,Dg (by omega),by omega,(s1.trans s2).turn hD,Ad,?_,_,rfl⟩;rw[bL,if_pos (hz.mp h2),List.map_append,hys];rfl
         . have h2:¬zs.length=0:=by
            intro z;apply h1;simp[z]
           refine⟨by omega,s1.trans s2,UI,?_,_,rfl⟩;rw[bL,if_neg (fun z=>h2 (hz.mpr z))];exact hys
     . rintro ys τ H1 ⟨_,s1,L9,hys,_⟩;refine key _ _ ⟨D,rfl,s1,?_⟩;rw[L9,hys];rfl
   rintro _ H1 ⟨P,rfl,s1,hP⟩
   have WU:∀x:Int,0<=x->x<25->∃p:Int,Uw ((prs 96).map V.int) x=some (.int p)/\p∈prs 96:=fun x c0 c1=>by
    obtain⟨j,rfl⟩:=Int.eq_ofNat_of_zero_le c0;have WA:j<(prs 96).length:=by rw[RT];omega
    refine⟨(prs 96)[j],?_,List.getElem_mem WA⟩;exact Ft (j:=j) (by rw[List.getElem?_map,List.getElem?_eq_getElem WA];rfl)
   have fin:∀p:Int,p∈prs 96->Q (.int p) H1:=fun p hp=>by
    obtain⟨JF,Sv⟩:=oV hp;exact k p H1 s1 JF Sv
   refine⟨_,rfl,_,_,rfl,rfl,(by show(0:Int)<2;decide),rfl,_,rfl,?_⟩;refine ite2 (fun _=>?_) (fun _=>?_)
   . obtain⟨p,hat,hp⟩:=WU (c / 2%4) (Int.emod_nonneg _ (by decide)) (by have:=Int.emod_lt_of_pos (c / 2) (show(0:Int)<4 by decide);omega);exact⟨_,rfl,_,rfl,_,_,rfl,rfl,⟨by decide,by decide⟩,_,_,rfl,rfl,(by show(0:Int)<4;decide),P,_,_,_,rfl,rfl,.of hP,hat,fin p hp⟩
   . obtain⟨p,hat,hp⟩:=WU (c / 2%25) (Int.emod_nonneg _ (by decide)) (Int.emod_lt_of_pos (c / 2) (show(0:Int)<25 by decide));exact⟨_,rfl,_,rfl,_,_,rfl,rfl,⟨by decide,by decide⟩,_,_,rfl,rfl,(by show(0:Int)<25;decide),P,_,_,_,rfl,rfl,.of hP,hat,fin p hp⟩
abbrev Jq:Stmt:=top 46
theorem Fb:FnScope ["_law_pieces","_law_paper","_law_prime_here","_law_total","_law_place","_law_number","_law_sign","_law_face"] ["_law_pieces","_law_paper","_law_prime_here"] (Ai Jq):=A7
theorem iJ{f:Addr}{fd:FuncData}(F:Fo K "_law_edge" "_law_edge" Jq f fd)(T:Ga K mg Al Am Ak Ab) :Bj P w K mg base Er 1 f fd ["_law_pieces","_law_paper","_law_prime_here"] (Vi K):=by
 refine F.ok Fb (fun vs H Q E h=>?_) (fun Cl A outer s H vs Q E hr h=>?_)
 . obtain⟨a,d,xs,sm,p,rfl,hL,h4,hd,ok,kk,hsl,hp,Sv,k⟩:=h;rfl
 . obtain⟨a,d,xs,sm,p,rfl,hL,h4,hd,ok,kk,hsl,hp,Sv,k⟩:=h;have Lu:=hr.u8
   refine⟨_,(Ag (Av (i:=3) Fb.nd Mq)
    (Ag (DS (C5 PassesOwn.never rfl (Js (pv 1)) (El (K:=K) (n:=2) (by rfl) (Bi (Ax (i:=4) Fb.nd) (Bi (Ax (i:=5) Fb.nd) Ek))) (Ag (Av (i:=6) Fb.nd Aj)
    (Ah (C5 PassesOwn.never rfl (Ql (K:=K) (A5 (A2 (K:=K)) (pv 0) (pv 4) (fun _ _=>rfl))) (Ax (i:=7) Fb.nd) (Ag (U2 (u1 Lu) (pv 3) (pv 7) (A6 F2 (BO (u1 Lu) (pv 3) (pv 7) Aj ⟨by rfl,by rfl,by rfl,by rfl⟩) (A6 op_mulX (pv 6) (pv 5))) (by rfl))
    (Ah (Av (i:=6) Fb.nd (Qb Kb (pv 6))))))))))
    (Ah (At (dX (Eb (N':=["_law_face","_law_number","_law_prime_here"]) (cap:=[none,none,some 2]) (by rfl) (by kernel_rfl) (Js (pv 3)) (fun _ _ _ _=>(El (K:=K) (n:=2) (by rfl) (Bi (Ax (i:=0) mE) (Bi (Ax (i:=1) mE) Ek)))) (fun _ _ _ _=>(Fp (As Lo (A6 Bs (pv 1) (pv 2)) Aj (Aw _)))) (fun _ _ _ _=>(pv 0)))))))),?_⟩
   refine Ar (fun σ' H'=>∃T:Addr,σ'=[some (.ref a),some (.ref d),some (.int p),some (.ref T),none,none,none,none]/\H T=none/\Same H H'/\H' T=some (.dK (cK []))) ?_ fun key=>?_;rotate_left
   . exact fun T hT=>key _ _ ⟨T,rfl,hT,Same.new hT,Ad⟩
   rintro _ H1 ⟨T,rfl,hT,s1,eT⟩;have JH:=Rep.same s1 hL;have hd1:=s1 _ _ hd;have XF:d≠T:=Ap hd hT;refine Ar (fun σ' H'=>∃(tot:Ms) (o4 o5 o6 o7:Option V),σ'=[some (.ref a),some (.ref d),some (.int p),some (.ref T),o4,o5,o6,o7]/\Same H H'/\H' T=some (.dK (cK tot))/\nd tot/\tot.length<=4000/\∀x,Au tot x=T9 sm fun j=>C9 (xs.getD j.toNat []) x) ?_ fun key=>?_;rotate_left
   . refine .inr ⟨d,cK sm,hd1,fun hnd o=>?_⟩;refine⟨_,rfl,d,o,cK sm,rfl,Ad,?_⟩
     refine S0 (d:=d) (o:=o) (kvs:=cK sm) (fun i σ G=>∃(tot:Ms) (o4 o5 o6 o7:Option V),σ=[some (.ref a),some (.ref d),some (.int p),some (.ref T),o4,o5,o6,o7]/\G d=some (.frz o (.dK (cK sm)))/\G T=some (.dK (cK tot))/\nd tot/\tot.length<=4*i/\(∀x,Au tot x=T9 (sm.take i) fun j=>C9 (xs.getD j.toNat []) x)/\(∀c q,c≠d->c≠T->H1 c=some q->G c=some q))
      ⟨[],none,none,none,none,rfl,Ad,?_,by simp[nd],Nat.zero_le _,fun x=>by rw[U8];rfl,?_⟩ (fun i σ G _ ⟨_,_,_,_,_,_,e,_⟩=>e) ?_ ?_
     . rw[Ae XF.symm];exact eT
     . intro c q n1 n2 e;rw[Ae n1];exact e
     . rintro i ky x σ G pr hx ⟨tot,o4,o5,o6,o7,rfl,PV,dF,OG,tl,EW,xN⟩ JF;obtain⟨q,hq,rfl,rfl⟩:=Tg hx;have hlt:i<sm.length:=(List.getElem?_eq_some_iff.mp hq).1;have vX:=List.mem_of_getElem? hq;obtain⟨q0,q1⟩:=kk q.1 (List.mem_map.mpr ⟨q,vX,rfl⟩);obtain⟨v0,v1⟩:=ok.bd q vX;have npd:d≠pr:=Ap PV JF;have npT:T≠pr:=Ap dF JF;have sp:=Same.new (o:=.tup [kV (.inl q.1),.int q.2]) JF
       have wF:LT K G (.ref a) xs:=by
        have e1:Iq d H1 (upd H1 d (.frz o (.dK (cK sm)))):=fun c r n e=>by rw[Ae n];exact e
        have l1:=Rep.x e1 hd1 JH;have d1:(upd H1 d (.frz o (.dK (cK sm)))) T=some (.dK (cK [])):=by rw[Ae XF.symm];exact eT
        have e2:Iq T (upd H1 d (.frz o (.dK (cK sm)))) G:=fun c r n e=>by
         by_cases z:c=d
         . subst z;rw[Ad]at e;cases e;exact PV
         . rw[Ae z]at e;exact xN c r z n e
        exact Rep.x (m:=cK []) e2 d1 l1
       refine⟨pr,_,rfl,.of Ad,rfl,_,_,rfl,_,_,rfl,rfl,?_⟩;have WE:=Rep.same sp wF;have wC:=sp _ _ PV;have tL:=sp _ _ dF;have VZ:∀c q,c≠d->c≠T->H1 c=some q->_:=fun c q n1 n2 e=>sp _ _ (xN c q n1 n2 e);generalize upd G pr (.tup [kV (.inl q.1),.int q.2])=G1 at WE wC tL VZ ⊢;refine P4 [some (.ref a),some (.ref d),some (.int p),some (.ref T),some (.int q.1),some (.int q.2),some (.int 1),o7] G1 (fun _ h=>h) ?_;obtain⟨us,v,pU,hat,tv⟩:=LT.get WE q0 q1;obtain⟨av,rfl,yN⟩:=TI.sq tv
       have hfl:(xs.getD q.1.toNat []).length<=4:=by
        rcases BY (l:=xs) (i:=q.1.toNat) (d:=[]) with z | z
        . exact h4 _ z
        . rw[z];exact Nat.zero_le _
       obtain⟨fs,hfs⟩:∃fs,fs=xs.getD q.1.toNat []:=⟨_,rfl⟩
       rw[←hfs]at yN hfl;refine⟨_,rfl,_,rfl,a,us,_,_,rfl,rfl,pU,hat,av,rfl,⟨_,yN⟩,?_⟩
       refine GI (K:=K) (a:=av) (xs:=fs.map V.int) (fun m σ G2=>∃(Ve:Ms) (o7:Option V),σ=[some (.ref a),some (.ref d),some (.int p),some (.ref T),some (.int q.1),some (.int q.2),some (.int (sg m)),o7]/\G2 T=some (.dK (cK Ve))/\nd Ve/\Ve.length<=4*i+m/\(∀x,Au Ve x=(T9 (sm.take i) fun j=>C9 (xs.getD j.toNat []) x)+q.2*Ko fs x m)/\Iq T G1 G2)
        ⟨tot,o7,rfl,tL,OG,tl,fun x=>by rw[EW x,Ko,Int.mul_zero,Int.add_zero],fun c r n e=>e⟩ (fun m σ G2 _ ⟨_,_,_,_,_,_,_,st⟩=>Dw.x st tL yN) ?_ ?_
       . rintro m y σ G2 hy ⟨Ve,o7,rfl,hT2,yY,tl2,UG,st⟩;have hm:m<fs.length:=by have:=(List.getElem?_eq_some_iff.mp hy).1;simpa using this
         have sW:y=.int (fs.getD m 0):=by
          rw[List.getElem?_map,List.getElem?_eq_getElem hm]at hy;rw[List.getD_eq_getElem?_getD,List.getElem?_eq_getElem hm];simpa using hy.symm
         subst sW;have sgb:sg m=1\/sg m=-1:=by unfold sg;omega
         refine⟨_,rfl,T,rfl,.inl ⟨_,.inl hT2⟩,_,rfl,_,gK (.inl hT2),_,rfl,_,rfl,_,_,rfl,rfl,My (by omega) (by omega),Au Ve (fs.getD m 0),_,gP Ve _,rfl,_,rfl,_,rfl,T,_,rfl,U9 hT2 (by omega),?_⟩;refine⟨_,rfl,_,rfl,?_⟩;refine⟨_,some (.int (fs.getD m 0)),?_,Ad,EL yY _ _,?_,fun x=>?_,fun c r n e=>?_⟩
         . have:sg (m+1)=-(sg m):=by unfold sg;omega
           rw[this];rfl
         . have:=AB Ve (fs.getD m 0) (Au Ve (fs.getD m 0)+sg m*q.2);omega
         . rw[mX,UG (fs.getD m 0),UG x];show _=_+q.2*(if fs.getD m 0=x then Ko fs x m+1-2*((m:Int)%2) else Ko fs x m);by_cases z:x=fs.getD m 0
           . rw[if_pos z,if_pos z.symm,←z,show Ko fs x m+1-2*((m:Int)%2)=Ko fs x m+sg m by unfold sg;omega,Int.mul_add,Int.mul_comm (sg m)];omega
           . rw[if_neg z,if_neg (fun y=>z y.symm)]
         . rw[Ae n];exact st c r n e
       . rintro σ G2 ⟨Ve,o7,rfl,hT2,yY,tl2,UG,st⟩;rw[List.length_map]at UG tl2;refine⟨Ve,_,_,_,_,rfl,st _ _ XF wC,hT2,yY,by omega,fun x=>?_,fun c r n1 n2 e=>st _ _ n2 (VZ c r n1 n2 e)⟩;rw[UG x,HF _ hq,←hfs];rfl
     . rintro σ G ⟨tot,o4,o5,o6,o7,rfl,PV,dF,OG,tl,EW,xN⟩;rw[Hv]at EW tl;rw[List.take_length]at EW;refine⟨PV,key _ _ ⟨tot,o4,o5,o6,o7,rfl,fun c q e=>?_,by rw[Ae XF.symm];exact dF,OG,by omega,EW⟩⟩;by_cases z:c=d
       . subst z;rw[hd]at e;cases e;exact Ad
       . rw[Ae z];exact xN c q z (Ap e hT) (s1 _ _ e)
   rintro _ H2 ⟨tot,o4,o5,o6,o7,rfl,s2,hT2,OG,tl,EW⟩;refine .inr ⟨T,cK tot,hT2,fun hnd o=>?_⟩;refine⟨_,rfl,T,o,cK tot,rfl,Ad,fun D hD=>?_⟩;obtain⟨mW,YY⟩:=W5 hD
   refine Pq (d:=T) (o:=o) (kvs:=cK tot) (fun i zs τ G=>zs=(A3 (modI p (tot.take i))).map V.int/\G T=some (.frz o (.dK (cK tot)))/\G D=some (.lst zs)/\Iq T H2 G/\∃o1 o2,τ=[o1,o2,some (.int p)])
    ⟨rfl,?_,Ad,?_,none,none,rfl⟩ (fun i zs τ G _ ⟨_,e,_⟩=>e) ?_ ?_
   . rw[Ae YY.symm];exact Ad
   . intro c q n1 e2;rw[Ae (Ap e2 mW),Ae n1];exact e2
   . rintro i ky x zs τ G pr hx ⟨hzs,dF,Hy,st,o1,o2,rfl⟩ JF;obtain⟨q,hq,rfl,rfl⟩:=Tg hx;have hlt:i<tot.length:=(List.getElem?_eq_some_iff.mp hq).1;have mt:=mod_take (p:=p) hq
     have zl:zs.length<=4000:=by
      have h1:=GC p (tot.take i);rw[List.length_take]at h1;rw[hzs,List.length_map];unfold A3;rw[List.length_map];omega
     have sp:=Same.new (o:=.tup [.int q.1,.int q.2]) JF;refine⟨pr,_,rfl,.of Ad,rfl,_,_,rfl,_,_,rfl,rfl,?_⟩;refine⟨_,rfl,_,rfl,_,_,rfl,rfl,hp,rfl,_,rfl,?_⟩;refine ite2 (fun h1=>?_) (fun h1=>?_)
     . have e:¬q.2%p=0:=by simpa using h1
       rw[if_neg e]at mt;refine⟨_,rfl,sp _ _ Hy,Dg (by omega),?_,?_,Ad,fun c r n1 e2=>?_,_,_,rfl⟩
       . rw[mt,hzs];unfold A3;rw[List.map_append,List.map_append];rfl
       . rw[Ae YY.symm];exact sp _ _ dF
       . rw[Ae (fun z=>by rw[z,mW]at e2;cases e2)];exact sp _ _ (st c r n1 e2)
     . have e:q.2%p=0:=by simpa using h1
       rw[if_pos e]at mt;exact⟨by rw[mt];exact hzs,sp _ _ dF,sp _ _ Hy,fun c r n1 e2=>sp _ _ (st c r n1 e2),_,_,rfl⟩
   . rintro zs τ G ⟨hzs,dF,Hy,st,_⟩;rw[Hv,List.take_length]at hzs;refine⟨dF,k D (A3 (modI p tot)) _ (s2.free mW) (fun c q e=>?_) (by rw[Ae YY,Hy,hzs]) fun x=>?_⟩
     . have e2:=s2 _ _ e;by_cases z:c=T
       . subst z;rw[hT2]at e2;cases e2;exact Ad
       . rw[Ae z];exact st c q z e2
     . rw[←Qs (z9 OG hp).nz,Il OG,EW x,BD _ xs.length sm ok.nd kk];have:A1 (fun j=>Au sm (j:Int)*C9 (xs.getD ((j:Nat):Int).toNat []) x) xs.length=A1 (fun j=>Au sm (j:Int)*C9 (xs.getD j []) x) xs.length:=Bb fun j _=>by rw[Int.toNat_natCast]
       rw[this]
abbrev Fg:Stmt:=top 55
theorem Tn:FnScope ["_law_pieces","_law_cell","_law_many"] ["_law_pieces","_law_cell"] (Ai Fg):=A7
theorem bT{f:Addr}{fd:FuncData}(F:Fo K "_law_misfit" "_law_misfit" Fg f fd)(T:Ga K mg Al Am Ak Ab) :Bj P w K mg base Er 1 f fd ["_law_pieces","_law_cell"] (O5 K):=by
 refine F.ok Tn (fun vs H Q E h=>?_) (fun Cl A outer s H vs Q E hr h=>?_)
 . obtain⟨a,c,xs,rfl,hL,k⟩:=h;rfl
 . obtain⟨a,c,xs,rfl,hL,k⟩:=h
   refine⟨_,(Ag (Av (i:=2) Tn.nd (Aq (An (K:=K)) T.n_len boot_len (Aa (pv 0) Af)))
    (Ah (At (PEw.h (fW (K:=K) (Fv (By (Aa (pv 2) (Aa (pv 2) Af))) (Fv (By (Aa Aj Af)) (Fv Cu (Fv (Eg (Aa Aj (Aa Aj Af))) (Fv (By (Aa (Qb Kb Aj) (Aa Aj Af))) (Fv (By (Aa Aj (Aa (pv 2) (Aa Aj Af)))) (Fv (By (Aa Cc (Aa Aj Af))) (Fv V0 PD)))))))) (A6 Bs (pv 1) Aj) (fun _ _=>rfl)))))),?_⟩
   obtain⟨_,us,z,Ur,ra⟩:=id hL;cases z;have DG:us.length=xs.length:=by have:=ra.length;simpa using this
   obtain⟨m1,m2,m3,m4,m5⟩:=PN xs;refine⟨_,rfl,a,us,rfl,.inl Ur,?_⟩;rw[DG];obtain⟨G0,e0⟩:∃G0,G0=H:=⟨_,rfl⟩
   rw[←e0]at k ⊢;refine⟨_,rfl,_,rfl,?_⟩;refine⟨Bc (by simp),fun a1 h1=>?_⟩;have z1:=Same.new (o:=.tup [.int (xs.length:Int),.int (xs.length:Int)]) h1;have e1:upd G0 a1 (.tup [.int (xs.length:Int),.int (xs.length:Int)]) a1=some (.tup [.int (xs.length:Int),.int (xs.length:Int)]):=Ad;generalize upd G0 a1 (.tup [.int (xs.length:Int),.int (xs.length:Int)])=G1 at z1 e1 ⊢;refine⟨Bc (by simp),fun a2 h2=>?_⟩;have z2:=Same.new (o:=.tup [.int 0]) h2;have e2:upd G1 a2 (.tup [.int 0]) a2=some (.tup [.int 0]):=Ad;generalize upd G1 a2 (.tup [.int 0])=G2 at z2 e2 ⊢;refine⟨Bc (by simp),fun a3 h3=>?_⟩;have z3:=Same.new (o:=.lst [.int 0,.int 0]) h3;have e3:upd G2 a3 (.lst [.int 0,.int 0]) a3=some (.lst [.int 0,.int 0]):=Ad;generalize upd G2 a3 (.lst [.int 0,.int 0])=G3 at z3 e3 ⊢;refine⟨_,rfl,?_⟩;refine⟨Bc (by simp),fun a4 h4=>?_⟩;have z4:=Same.new (o:=.tup [.int (-1),.int 0]) h4;have e4:upd G3 a4 (.tup [.int (-1),.int 0]) a4=some (.tup [.int (-1),.int 0]):=Ad;generalize upd G3 a4 (.tup [.int (-1),.int 0])=G4 at z4 e4 ⊢;refine⟨_,rfl,?_⟩;refine⟨Bc (by simp),fun a5 h5=>?_⟩;have z5:=Same.new (o:=.tup [.int 0,.int (xs.length:Int),.int 0]) h5;have e5:upd G4 a5 (.tup [.int 0,.int (xs.length:Int),.int 0]) a5=some (.tup [.int 0,.int (xs.length:Int),.int 0]):=Ad;generalize upd G4 a5 (.tup [.int 0,.int (xs.length:Int),.int 0])=G5 at z5 e5 ⊢;refine⟨Bc (by simp),fun a6 h6=>?_⟩;have z6:=Same.new (o:=.tup [.bl true,.int 0]) h6;have e6:upd G5 a6 (.tup [.bl true,.int 0]) a6=some (.tup [.bl true,.int 0]):=Ad;generalize upd G5 a6 (.tup [.bl true,.int 0])=G6 at z6 e6 ⊢;refine⟨Bc (by simp),fun a7 h7=>?_⟩;have v6:∀o,Same G6 (upd G6 a7 o):=fun o=>Same.new h7;have v5:=fun o=>z6.trans (v6 o);have v4:=fun o=>z5.trans (v5 o);have v3:=fun o=>z4.trans (v4 o);have v2:=fun o=>z3.trans (v3 o);have v1:=fun o=>z2.trans (v2 o);have w:=fun o=>z1.trans (v1 o);have d0:=Int.emod_nonneg c (show(8:Int)≠0 by decide);have d1:=Int.emod_lt_of_pos c (show(0:Int)<8 by decide);refine⟨_,rfl,_,_,rfl,rfl,(by show(0:Int)<8;decide),?_⟩;rcases (show c%8=0\/c%8=1\/c%8=2\/c%8=3\/c%8=4\/c%8=5\/c%8=6\/c%8=7 by omega) with q | q | q | q | q | q | q | q
   . exact⟨a7,_,c%8,.ref a1,rfl,rfl,.of Ad,(by rw[q];rfl),k _ (.d (.tup [.int (xs.length:Int),.int (xs.length:Int)])) _ (w _) ⟨_,_,rfl,.of (v1 _ _ _ e1),⟨_,_,rfl,rfl,⟨_,_,rfl,rfl,rfl⟩⟩⟩ m1⟩
   . exact⟨a7,_,c%8,.ref a2,rfl,rfl,.of Ad,(by rw[q];rfl),k _ (.d (.tup [.int 0])) _ (w _) ⟨_,_,rfl,.of (v2 _ _ _ e2),⟨_,_,rfl,rfl,rfl⟩⟩ m2⟩
   . exact⟨a7,_,c%8,.non,rfl,rfl,.of Ad,(by rw[q];rfl),k _ (.d .non) _ (w _) rfl (fun z=>by cases z)⟩
   . exact⟨a7,_,c%8,.ref a3,rfl,rfl,.of Ad,(by rw[q];rfl),k _ (.d (.lst [.int 0,.int 0])) _ (w _) ⟨_,_,rfl,.of (v3 _ _ _ e3),⟨_,_,rfl,rfl,⟨_,_,rfl,rfl,rfl⟩⟩⟩ (fun z=>by cases z)⟩
   . exact⟨a7,_,c%8,.ref a4,rfl,rfl,.of Ad,(by rw[q];rfl),k _ (.d (.tup [.int (-1),.int 0])) _ (w _) ⟨_,_,rfl,.of (v4 _ _ _ e4),⟨_,_,rfl,rfl,⟨_,_,rfl,rfl,rfl⟩⟩⟩ m3⟩
   . exact⟨a7,_,c%8,.ref a5,rfl,rfl,.of Ad,(by rw[q];rfl),k _ (.d (.tup [.int 0,.int (xs.length:Int),.int 0])) _ (w _) ⟨_,_,rfl,.of (v5 _ _ _ e5),⟨_,_,rfl,rfl,⟨_,_,rfl,rfl,⟨_,_,rfl,rfl,rfl⟩⟩⟩⟩ m4⟩
   . exact⟨a7,_,c%8,.ref a6,rfl,rfl,.of Ad,(by rw[q];rfl),k _ (.d (.tup [.bl true,.int 0])) _ (w _) ⟨_,_,rfl,.of (v6 _ _ _ e6),⟨_,_,rfl,rfl,⟨_,_,rfl,rfl,rfl⟩⟩⟩ m5⟩
   . exact⟨a7,_,c%8,.str "p",rfl,rfl,.of Ad,(by rw[q];rfl),k _ (.d (.str "p")) _ (w _) rfl (fun z=>by cases z)⟩
abbrev Ce:Stmt:=top 2
theorem P8:FnScope ["thing","bound"] ["thing","bound"] (Ai Ce):=A7
theorem Qe{f:Addr}{fd:FuncData}(F:Fo K "is_whole_below" "is_whole_below" Ce f fd)(T:Ga K mg Al Am Ak Ab)(Sy:Has P w K mg base "is_whole" ["thing"] 1 (Id K)):Bj P w K mg base Er 2 f fd ["thing","bound"] (Bv K):=by
 refine F.ok P8 (fun vs H Q E h=>?_) (fun Cl A outer s H vs Q E hr h=>?_)
 . obtain⟨x,d,b,rfl,hx,k⟩:=h;rfl
 . obtain⟨x,d,b,rfl,hx,k⟩:=h;refine⟨_,(Ah (At (Ix (Ao Sy hr (Aa (pv 0) Af)) (Hc (LO vF Ij Aj (pv 0) (pv 1)))))),?_⟩;refine⟨_,rfl,x,d,rfl,hx,_,rfl,?_⟩;refine ite2 (fun e=>?_) (fun e=>?_)
   . obtain⟨i,rfl⟩:=Vb e;cases (show x=.int i from hx);refine⟨_,rfl,_,_,rfl,rfl,_,rfl,?_⟩;refine ite2 (fun e1=>?_) (fun e1=>?_)
     . refine⟨_,rfl,_,_,rfl,rfl,?_⟩;have e2:Lg (.int i) b=decide (i<b):=by show(decide (0<=i)&&decide (i<b))=_;rw[e1];rfl
       rw[e2]at k;exact k
     . have e2:Lg (.int i) b=false:=by show(decide (0<=i)&&decide (i<b))=_;simp at e1;simp;omega
       rw[e2]at k;exact k
   . have e2:Lg d b=false:=by
      cases d<;>first | rfl | (exfalso;exact e rfl)
     rw[e2]at k;exact k
abbrev R3:Stmt:=top 11
theorem U0:FnScope ["one","other","told","place","number"] ["one","other"] (Ai R3):=A7
theorem pI{f:Addr}{fd:FuncData}(F:Fo K "plus" "plus" R3 f fd)(T:Ga K mg Al Am Ak Ab)(N3:Has P w K mg base "add_at" ["chain","place","number"] 1 (Jh K)):Bj P w K mg base Er 2 f fd ["one","other"] (p6 K):=by
 refine F.ok U0 (fun vs H Q E h=>?_) (fun Cl A outer s H vs Q E hr h=>?_)
 . obtain⟨a,b,ms,ns,rfl,ha,hb,hm,hn,k⟩:=h;rfl
 . obtain⟨a,b,ms,ns,rfl,ha,hb,hm,hn,k⟩:=h
   refine⟨_,(Ag (Av (i:=2) U0.nd (C7 Pu (by rfl) T.n_dict Fn (Aa (pv 0) Af)))
    (Ag (DS (C5 PassesOwn.never rfl (Js (pv 1)) (El (K:=K) (n:=2) (by rfl) (Bi (Ax (i:=3) U0.nd) (Bi (Ax (i:=4) U0.nd) Ek))) (Ah (Ck (Ao N3 hr (Aa (pv 2) (Aa (pv 3) (Aa (pv 4) Af))))))))
    (Ah (At (pv 2))))),?_⟩
   refine⟨_,rfl,a,cK ms,rfl,ha,fun D hD=>?_⟩;have xH:b≠D:=Ap hb hD;refine .inr ⟨b,cK ns,(by rw[Ae xH];exact hb),fun hnd o=>?_⟩;refine⟨_,rfl,b,o,cK ns,rfl,Ad,?_⟩
   refine S0 (d:=b) (o:=o) (kvs:=cK ns) (fun i σ H1=>∃o1 o2,σ=[some (.ref a),some (.ref b),some (.ref D),o1,o2]/\H1 b=some (.frz o (.dK (cK ns)))/\H1 D=some (.dK (cK (C6 ms (ns.take i))))/\(∀c q,c≠b->c≠D->H c=some q->H1 c=some q))
    ⟨none,none,rfl,Ad,?_,?_⟩ (fun i σ H1 _ ⟨_,_,_,e,_⟩=>e) ?_ ?_
   . rw[Ae xH.symm,Ad];rfl
   . intro c q n1 n2 e;rw[Ae n1,Ae n2];exact e
   . rintro i kk x σ H1 p hx ⟨o1,o2,rfl,hb1,L9,hk1⟩ hp;obtain⟨q,hq,rfl,rfl⟩:=Tg hx;have npb:b≠p:=Ap hb1 hp;have npD:D≠p:=Ap L9 hp;have hlt:i<ns.length:=(List.getElem?_eq_some_iff.mp hq).1;refine⟨p,_,rfl,.of Ad,rfl,_,_,rfl,_,_,rfl,rfl,?_⟩;refine⟨_,rfl,_,rfl,_,rfl,D,C6 ms (ns.take i),q.1,q.2,rfl,(by rw[Ae npD];exact L9),?_,?_⟩
     . have:=Qj (ns.take i) ms;rw[List.length_take]at this;omega
     . refine⟨_,_,rfl,?_,?_,fun c r n1 n2 e=>?_⟩
       . rw[Ae xH,Ae npb];exact hb1
       . rw[Ad,ID hq]
       . rw[Ae n2,Ae (Ap (hk1 c r n1 n2 e) hp)];exact hk1 c r n1 n2 e
   . rintro σ H1 ⟨o1,o2,rfl,hb1,L9,hk1⟩;rw[Hv,List.take_length]at L9;refine⟨hb1,_,rfl,k D _ hD (fun c q e=>?_) (by rw[Ae xH.symm];exact L9)⟩;by_cases z:c=b
     . subst z;rw[hb]at e;cases e;exact Ad
     . rw[Ae z];exact hk1 c q z (Ap e hD) e
abbrev Es:Stmt:=top 27
theorem Kk:FnScope ["chain","faces","number","i","face"] ["chain","faces","number"] (Ai Es):=A7
theorem x9{f:Addr}{fd:FuncData}(F:Fo K "add_faces" "add_faces" Es f fd)(T:Ga K mg Al Am Ak Ab)(N3:Has P w K mg base "add_at" ["chain","place","number"] 1 (Jh K)):Bj P w K mg base Er 2 f fd ["chain","faces","number"] (Kg K):=by
 refine F.ok Kk (fun vs H Q E h=>?_) (fun Cl A outer s H vs Q E hr h=>?_)
 . obtain⟨a,v,ms,fs,n,rfl,ha,hv,hm,kq⟩:=h;rfl
 . obtain⟨a,v,ms,fs,n,rfl,ha,hv,hm,kq⟩:=h;refine⟨_,(Ah (C5 PassesOwn.never rfl (LJ (K:=K) (by rfl) T.n_enumerate (Aa (pv 1) Af)) (El (K:=K) (n:=2) (by rfl) (Bi (Ax (i:=3) Kk.nd) (Bi (Ax (i:=4) Kk.nd) Ek))) (Ah (Ck (Ao N3 hr (Aa (pv 0) (Aa (pv 4) (Aa (bO (As Cq (A6 Bs (pv 3) Aj) Aj (Aw _)) (pv 2) (Qb Kb (pv 2))) Af)))))))),?_⟩;obtain⟨af,rfl,sq⟩:=TI.sq hv
   refine⟨_,rfl,af,rfl,⟨_,sq⟩,jI (K:=K) (a:=af) (xs:=fs.map V.int) (fun i σ H1=>∃o1 o2,σ=[some (.ref a),some (.ref af),some (.int n),o1,o2]/\Iq a H H1/\H1 a=some (.dK (cK (Ip ms fs n i))))
    ⟨none,none,rfl,fun _ _ _ e=>e,ha⟩ (fun i σ H1 _ ⟨_,_,_,s1,_⟩=>Dw.x s1 ha sq) ?_ ?_⟩
   . rintro i x σ H1 p hx ⟨o1,o2,rfl,s1,ha1⟩ hp;have hi:i<fs.length:=by have:=(List.getElem?_eq_some_iff.mp hx).1;simpa using this
     have hxv:x=.int (fs.getD i 0):=by
      rw[List.getElem?_map,List.getElem?_eq_getElem hi]at hx;rw[List.getD_eq_getElem?_getD,List.getElem?_eq_getElem hi];simpa using hx.symm
     subst hxv;have sp:Same H1 (upd H1 p (.tup [.int i,.int (fs.getD i 0)])):=Same.new hp;have ha2:=sp _ _ ha1;have hl:=c9 ms fs n i;refine⟨p,_,rfl,.of Ad,rfl,_,_,rfl,_,_,rfl,rfl,?_⟩
     have fin:∀m,m=OR n i->Jh K [.ref a,.int (fs.getD i 0),.int m] (upd H1 p (.tup [.int i,.int (fs.getD i 0)])) (fun v H'=>∃o1 o2,([some (.ref a),some (.ref af),some (.int n),some (.int (i:Int)),some (.int (fs.getD i 0))]:St)=[some (.ref a),some (.ref af),some (.int n),o1,o2]/\Iq a H H'/\H' a=some (.dK (cK (Ip ms fs n (i+1))))) E0:=by
      intro m hm2;subst hm2;refine⟨a,Ip ms fs n i,_,_,rfl,ha2,by omega,_,_,rfl,fun c q n1 e=>?_,Ad⟩;rw[Ae n1];exact sp _ _ (s1 c q n1 e)
     refine⟨_,rfl,_,rfl,_,rfl,_,_,rfl,rfl,(by show(0:Int)<2;decide),rfl,_,rfl,?_⟩;refine ite2 (fun h1=>?_) (fun h1=>?_)
     . have h2:(i:Int)%2=0:=by simpa using h1
       exact⟨_,rfl,fin n (by unfold OR;rw[if_pos h2])⟩
     . have h2:¬(i:Int)%2=0:=by simpa using h1
       exact⟨_,rfl,_,rfl,fin (-n) (by unfold OR;rw[if_neg h2])⟩
   . rintro σ H1 ⟨o1,o2,rfl,s1,ha1⟩;rw[List.length_map]at ha1;exact kq H1 s1 ha1
abbrev Dj:Stmt:=top 31
theorem Vp:FnScope ["number","prime"] ["number","prime"] (Ai Dj):=A7
theorem V2{f:Addr}{fd:FuncData}(F:Fo K "turned_over" "turned_over" Dj f fd)(T:Ga K mg Al Am Ak Ab)(F4:Has P w K mg base "shared_divisor" ["one","other"] 1 (p9 K)):Bj P w K mg base Er 2 f fd ["number","prime"] (Vg K):=by
 refine F.ok Vp (fun vs H Q E h=>?_) (fun Cl A outer s H vs Q E hr h=>?_)
 . obtain⟨n,p,rfl,hp,Sv,hn,k⟩:=h;rfl
 . obtain⟨n,p,rfl,hp,Sv,hn,k⟩:=h;refine⟨_,(Ah (At (A6 Bs (A5 (Be (K:=K)) (Ao F4 hr (Aa (pv 0) (Aa (pv 1) Af))) Aj (fun _ _=>rfl)) (pv 1)))),?_⟩;have hp2:=hp.two;refine⟨_,rfl,_,rfl,n,p,rfl,hp,Sv,hn,fun L x y H' s' hL hd=>?_⟩;refine⟨L,_,_,_,rfl,rfl,hL,rfl,_,rfl,_,_,rfl,rfl,(by show(0:Int)<p;omega),?_⟩;obtain⟨q1,q2,q3⟩:=LQ hp2 hd;exact k _ H' s' q1 q2 q3
abbrev Jp:Stmt:=top 41
theorem R0:FnScope ["_law_pieces","_law_thing","_law_face","_law_j"] ["_law_pieces","_law_thing"] (Ai Jp):=A7
theorem II{f:Addr}{fd:FuncData}(F:Fo K "_law_fits" "_law_fits" Jp f fd)(T:Ga K mg Al Am Ak Ab)(Ct:Has P w K mg base "_law_level" ["_law_piece"] 1 (B2 K))(Jy:Has P w K mg base "_law_meets" ["_law_pieces","_law_faces","_law_face"] 1 (No K))(Br:Has P w K mg base "_law_whole" ["_law_found"] 1 (D0 K)):Bj P w K mg base Er 2 f fd ["_law_pieces","_law_thing"] (Rk K):=by
 refine F.ok R0 (fun vs H Q E h=>?_) (fun Cl A outer s H vs Q E hr h=>?_)
 . obtain⟨a,th,e,xs,rfl,hL,uJ,QS,hd,k⟩:=h;rfl
 . obtain⟨a,th,e,xs,rfl,hL,uJ,QS,hd,k⟩:=h;have Lu:=hr.u8
   refine⟨_,(Ag (Ba (PW.pt (Ha (B3 (B0 (Aq (j7 (K:=K)) T.n_isinstance Bo (Aa (pv 1) (Aa (Ge (v:=.ty "tuple") rfl T.n_tuple Ew rfl) Af))))) (G9 (As (Pf (K:=K) Lu) (Aq (An (K:=K)) T.n_len boot_len (Aa (pv 1) Af)) (By (Aa Aj (Aa Aj (Aa Aj (Aa Aj Af))))) rfl)))) (Ah (At Cc)) Az)
    (Ag (C5 PassesOwn.never rfl (Ql (K:=K) (pv 1)) (Ax (i:=2) R0.nd) (Ag (Ba (PW.pt (Ha (B3 (B0 (Ao Br hr (Aa (pv 2) Af)))) (Ha (As Ij (pv 2) Aj (Aw _)) (G9 (As FY (pv 2) (Aq (An (K:=K)) T.n_len boot_len (Aa (pv 0) Af)) (Aw _)))))) (Ah (At Cc)) Az)
    (Ah (Ba (As Lo (A6 F2 (Ao Ct hr (Aa (A5 (A2 (K:=K)) (pv 0) (pv 2) (fun _ _=>rfl)) Af)) Aj) (Ao Ct hr (Aa (pv 1) Af)) (Aw _)) (Ah (At Cc)) Az))))
    (Ag (C5 PassesOwn.never rfl (Ch (by rfl) T.n_range (Aa (Aq (An (K:=K)) T.n_len boot_len (Aa (pv 1) Af)) Af)) (Ax (i:=3) R0.nd) (Ah (Ba (B3 (B0 (Ao Jy hr (Aa (pv 0) (Aa (V1 (mL (K:=K)) (pv 1) FU (U3 (pv 3))) (Aa (A5 (Be (K:=K)) (pv 1) (pv 3) (fun _ _=>rfl)) Af)))))) (Ah (At Cc)) Az)))
    (Ah (At Cc))))),?_⟩
   refine⟨_,rfl,th,"tuple",.one e,rfl,.inr (.inr (.inr (.inl rfl))),hd,_,rfl,?_⟩;cases e with
   | nul=>exact k H (Same.refl H)
   | d d =>
     have hd:Rep K H th d:=hd;have k:∀H',Same H H'->Q (.bl (Cj xs d)) H':=k;cases d with
     | non=>exact k H (Same.refl H)
     | bl b=>exact k H (Same.refl H)
     | int i=>exact k H (Same.refl H)
     | str z=>exact k H (Same.refl H)
     | lst es=>exact k H (Same.refl H)
     | tup ds =>
       obtain⟨pa,us,rfl,VX,r0⟩:=id hd;have ul:us.length=ds.length:=r0.length;refine Da (by simp[zD,ZD,U7]) ?_;refine⟨_,rfl,pa,us,rfl,.inr VX,Bc (by simp),fun C hC=>?_⟩;have sC:Same H (upd H C (.tup [.int 0,.int 2,.int 3,.int 4])):=Same.new hC;refine⟨.int (us.length:Int),Cb [0,2,3,4],rfl,.inr ⟨C,_,rfl,.of Ad,Gx.mpr rfl⟩,(by rw[N5];decide),_,rfl,?_⟩;rw[ul]
       have cnt:(!(Cb [0,2,3,4]).any fun e=>eqD e (.int (ds.length:Int)))=!Ol ds.length:=by
        have:(Cb [0,2,3,4]).any (fun e=>eqD e (.int (ds.length:Int)))=Ol ds.length:=by
         simp only[Cb,List.map_cons,List.map_nil,List.any_cons,List.any_nil,eqD,Ol];rw[Bool.eq_iff_iff];simp only[Bool.or_eq_true,beq_iff_eq,Bool.or_false];omega
        rw[this]
       have k1:=k _ sC;by_cases hc:Ol ds.length=true;rotate_left
       . have hc':Ol ds.length=false:=by simpa using hc
         refine Mc (by rw[if_pos rfl,cnt,hc'];rfl) ?_;have e2:Cj xs (.tup ds)=false:=by rw[Cp];simp[hc']
         rw[e2]at k1;exact k1
       refine Da (by rw[if_pos rfl,cnt,hc];simp) ?_;have hn4:ds.length<=4:=(aX hc).1
       refine⟨_,rfl,pa,rfl,⟨_,sC.seqT VX⟩,GI (K:=K) (a:=pa) (xs:=us) (fun i σ H2=>Same H H2/\(∃o2,σ=[some (.ref a),some (.ref pa),o2,none])/\((ds.take i).all fun e=>Bh xs e (Bq ds.length-1))=true)
        ⟨sC,⟨none,rfl⟩,rfl⟩ (fun i σ H2 _ ⟨s2,_⟩=>s2.seqT VX) ?_ ?_⟩
       . rintro i x σ H2 hx ⟨s2,⟨o2,rfl⟩,hall⟩;have hq:Dw K H2 pa us:=s2.seqT VX;have r:Reps K H2 us ds:=Reps.same s2 r0;have JH:LT K H2 (.ref a) xs:=Rep.same s2 hL;have k1:=k H2 s2;obtain⟨xu,XI,zG⟩:=LT.len JH;obtain⟨e,he,re⟩:=r.getV hx;have hne:1<=ds.length:=by have:=(List.getElem?_eq_some_iff.mp he).1;omega
         have hn2:2<=ds.length:=by have:=(aX hc).2;omega
         have bad:Bh xs e (Bq ds.length-1)=false->Cj xs (.tup ds)=false:=fun z=>by
          have:(ds.all fun e=>Bh xs e (Bq ds.length-1))=false:=by
           rw[List.all_eq_false];exact⟨e,List.mem_of_getElem? he,by simp[z]⟩
          rw[Cp,this];simp
         refine⟨_,rfl,x,e,rfl,re,_,rfl,?_⟩;by_cases hw:Cw e=true;rotate_left
         . have hw':Cw e=false:=by simpa using hw
           refine Mc (by rw[hw'];rfl) ?_;have e2:=bad (by cases e<;>first | rfl | (exfalso;exact hw rfl));rw[e2]at k1;exact k1
         refine Da (by rw[hw];simp) ?_;obtain⟨f,rfl⟩:=Vb hw;cases (show x=.int f from re);refine⟨_,rfl,_,_,rfl,rfl,_,rfl,?_⟩;by_cases h0:0<=f;rotate_left
         . refine Mc (by simp;omega) ?_;have e2:=bad (by show(decide (0<=f)&&decide (f<(xs.length:Int))&&decide (Bq (xs.getD f.toNat []).length=_))=false;simp[h0]);rw[e2]at k1;exact k1
         refine Da (by simp;omega) ?_;refine⟨_,rfl,_,rfl,a,xu,rfl,.inl XI,_,_,rfl,rfl,_,rfl,?_⟩;rw[zG];by_cases h1:f<(xs.length:Int);rotate_left
         . refine Mc (by simp;omega) ?_;have e2:=bad (by show(decide (0<=f)&&decide (f<(xs.length:Int))&&decide (Bq (xs.getD f.toNat []).length=_))=false;simp[h1]);rw[e2]at k1;exact k1
         refine Da (by simp;omega) ?_;obtain⟨xu',v,hq',hv,tv⟩:=LT.get JH h0 h1;refine⟨_,rfl,_,rfl,a,xu',f,_,rfl,rfl,hq',hv,v,Cb (xs.getD f.toNat []),rfl,.inr tv,_,_,rfl,rfl,_,rfl,.ref pa,ds,rfl,.inr (Rep.same s2 hd),rfl,_,rfl,?_⟩;rw[show(Cb (xs.getD f.toNat [])).length=(xs.getD f.toNat []).length from List.length_map ..]
         have key:Bh xs (.int f) (Bq ds.length-1)=decide (Bq (xs.getD f.toNat []).length+1=Bq ds.length):=by
          show(decide (0<=f)&&decide (f<(xs.length:Int))&&decide (Bq (xs.getD f.toNat []).length=Bq ds.length-1))=_;rw[decide_eq_true h0,decide_eq_true h1];simp only[Bool.and_self,Bool.true_and];exact decide_eq_decide.mpr (by omega)
         by_cases hg:Bq (xs.getD f.toNat []).length+1=Bq ds.length;rotate_left
         . refine Mc (yX hg) ?_;have e2:=bad (by rw[key];exact decide_eq_false hg);rw[e2]at k1;exact k1
         refine Da (XX hg) ?_;refine⟨s2,⟨_,rfl⟩,?_⟩;rw[List.take_succ,he,List.all_append,hall];show(true&&(Bh xs (.int f) (Bq ds.length-1)&&true))=true;rw[key,decide_eq_true hg];rfl
       . rintro σ H1 ⟨s1,⟨o2,rfl⟩,hall⟩;have hq:Dw K H1 pa us:=s1.seqT VX;have JH:LT K H1 (.ref a) xs:=Rep.same s1 hL;have hd1:Rep K H1 (.ref pa) (.tup ds):=Rep.same s1 hd;have k1:=k H1 s1;rw[ul,List.take_length]at hall;have hint:=Qy hall
         have tv:TI K H1 (.ref pa) (ds.map kF):=by
          have:=hd1;rw[hint]at this;exact this
         generalize hp:ds.map kF=p at hint tv;have hpn:p.length=ds.length:=by rw[←hp,List.length_map]
         have e2:Cj xs (.tup ds)=(decide (Bq ds.length<2) || E3 xs p):=by rw[Cp];rw[hall,hc,hp];rfl
         have hfs:∀f∈p,0<=f/\f<(xs.length:Int)/\Bq (xs.getD f.toNat []).length+1=Bq p.length:=by
          intro f hf;rw[List.all_eq_true]at hall
          have hm:L2.D.int f∈ds:=by
           rw[hint];exact List.mem_map.mpr ⟨f,hf,rfl⟩
          have:=hall _ hm;simp only[Bh,Bool.and_eq_true,decide_eq_true_eq]at this;obtain⟨⟨f0,f1⟩,f2⟩:=this;exact⟨f0,f1,by rw[hpn];omega⟩
         have ma:=iU uJ hfs;rw[hpn]at ma;obtain⟨pa',ez,sqp⟩:=tv.sq;cases ez
         have no:∀j G,j<ds.length->¬meetsB xs (p.take j) (p.getD j 0)=true->Same H G->Q (.bl false) G:=fun j G hj hm g=>by
          have kG:=k G g
          have:Cj xs (.tup ds)=false:=by
           rw[e2,Bool.eq_false_iff];exact fun z=>hm (ma.mpr z j hj)
          rw[this]at kG;exact kG
         refine⟨_,rfl,pa,us,rfl,.inr hq,_,rfl,by omega,by omega,?_⟩;rw[ul]
         refine Dv (lo:=0) (n:=((ds.length:Nat):Int).toNat) (fun j σ H2=>Same H1 H2/\(∃o2 o3,σ=[some (.ref a),some (.ref pa),o2,o3])/\∀j',j'<j->meetsB xs (p.take j') (p.getD j' 0)=true)
          ⟨Same.refl _,⟨_,none,rfl⟩,fun j' h=>absurd h (by omega)⟩ ?_ ?_
         . rintro j σ G hj ⟨g,⟨o2,o3,rfl⟩,hall2⟩;have hj':j<p.length:=by omega
           rw[show(0:Int)+(j:Int)=(j:Int) by omega]
           have zS:Uw (p.map V.int) (j:Int)=some (.int (p.getD j 0)):=by
            have:=Ni (sp:=p) (x:=(j:Int)) (by omega) (by omega)
            rwa [Int.toNat_natCast]at this
           refine⟨_,rfl,_,rfl,_,rfl,_,rfl,pa,_,rfl,g.seqT sqp,?_,fun T1 G1 g1 q1=>?_⟩
           . rw[List.length_map];rintro ⟨_,z⟩;rw[HT.sIx_nat]at z;omega
           rw[NL,←List.map_take]at q1;have gg:=g.trans g1;obtain⟨x0,x1,x2⟩:=hfs _ (D4 hj');have hcx:=uJ.at x0 x1;refine⟨_,rfl,_,rfl,pa,_,_,_,rfl,rfl,gg.seqT sqp,zS,a,.ref T1,xs,p.take j,p.getD j 0,rfl,Rep.same gg JH,TI.mk q1,x0,x1,fun y hy=>⟨(hfs y (List.mem_of_mem_take hy)).1,(hfs y (List.mem_of_mem_take hy)).2.1⟩,by rw[List.length_take];omega,?_,?_⟩
           . rw[Cs,Cs]at x2;by_cases hz:(xs.getD (p.getD j 0).toNat []).length=0
             . exact .inl hz
             . refine .inr ⟨by rw[List.length_take];omega,fun y hy=>?_⟩;obtain⟨y0,y1,y2⟩:=hfs y (List.mem_of_mem_take hy);have hcy:=uJ.at y0 y1;rw[Cs,Cs]at y2;rw[List.length_take];omega
           refine⟨_,rfl,?_⟩;by_cases hm:meetsB xs (p.take j) (p.getD j 0)=true
           . rw[hm];refine Da (by simp) ?_;refine⟨gg,⟨_,_,rfl⟩,fun j' hj2=>?_⟩;by_cases z:j'=j
             . subst z;exact hm
             . exact hall2 j' (by omega)
           . refine Mc (by simpa using hm) ?_;exact no j G1 (by omega) hm (s1.trans gg)
         . rintro σ G ⟨g,⟨o2,o3,rfl⟩,hall2⟩;have kG:=k G (s1.trans g)
           have:Cj xs (.tup ds)=true:=by
            rw[e2];exact ma.mp fun j hj=>hall2 j (by omega)
           rw[this]at kG;exact kG
abbrev Jl:Stmt:=top 43
theorem c5:FnScope ["_law_pieces","_law_cell","_law_points"] ["_law_pieces","_law_cell"] (Ai Jl):=A7
theorem iG{f:Addr}{fd:FuncData}(F:Fo K "_law_side" "_law_side" Jl f fd)(T:Ga K mg Al Am Ak Ab)(K2:Has P w K mg base "_law_pick" ["_law_cell","_law_j","_law_many"] 1 (Np K)):Bj P w K mg base Er 2 f fd ["_law_pieces","_law_cell"] (Rm K):=by
 refine F.ok c5 (fun vs H Q E h=>?_) (fun Cl A outer s H vs Q E hr h=>?_)
 . obtain⟨a,xs,c,rfl,hL,QS,k⟩:=h;rfl
 . obtain⟨a,xs,c,rfl,hL,QS,k⟩:=h
   refine⟨_,(Ag (U1 (N':=["_law_place","_law_pieces"]) (cap:=[none,some 0]) (i:=2) c5.nd (by rfl) (by first | exact Or.inl rfl | exact Or.inr rfl) (by rfl) (by kernel_rfl) (Ch (by rfl) T.n_range (Aa (Aq (An (K:=K)) T.n_len boot_len (Aa (pv 0) Af)) Af)) (fun _ _ _ _=>(Ax (i:=0) VJ)) (fun _ _ _ _=>(Fp (As Cq (Aq (An (K:=K)) T.n_len boot_len (Aa (A5 (A2 (K:=K)) (pv 1) (pv 0) (fun _ _=>rfl)) Af)) Aj (Aw _)))) (fun _ _ _ _=>(pv 0)))
    (Ag (Ba (As Cq (Aq (An (K:=K)) T.n_len boot_len (Aa (pv 2) Af)) Aj (Aw _)) (Ah (At (By Af))) Az)
    (Ah (At (By (Aa (A5 (A2 (K:=K)) (pv 2) (Ao K2 hr (Aa (pv 1) (Aa Aj (Aa (Aq (An (K:=K)) T.n_len boot_len (Aa (pv 2) Af)) Af)))) (fun _ _=>rfl)) (Aa (A5 (A2 (K:=K)) (pv 2) (Ao K2 hr (Aa (pv 1) (Aa Aj (Aa (Aq (An (K:=K)) T.n_len boot_len (Aa (pv 2) Af)) Af)))) (fun _ _=>rfl)) Af))))))),?_⟩
   obtain⟨us,hq,ul⟩:=LT.len hL;refine Ar (fun σ' H'=>∃(P:Addr) (ps:List Int),σ'=[some (.ref a),some (.int c),some (.ref P)]/\Same H H'/\H' P=some (.lst (ps.map V.int))) ?_ fun key=>?_;rotate_left
   . refine⟨_,rfl,a,us,rfl,.inl hq,_,rfl,by omega,by omega,fun D hD=>?_⟩
     refine Hs (fun i ys τ G=>Same H G/\G D=some (.lst ys)/\(∃ps:List Int,ys=ps.map V.int/\ps.length<=i)/\∃o,τ=[o,some (.ref a)])
      ⟨Same.new hD,Ad,⟨[],rfl,Nat.le_refl _⟩,none,rfl⟩ ?_ ?_
     . rintro i ys τ G hi ⟨g,Hy,⟨ps,rfl,hpl⟩,o,rfl⟩;have hi2:i<xs.length:=by omega
       obtain⟨u1,v1,hu1,tX,oG⟩:=LT.get (i:=(0:Int)+(i:Int)) (Rep.same g hL) (by omega) (by omega);obtain⟨b1,rfl,hb1⟩:=oG.sq;refine⟨_,rfl,_,rfl,a,u1,_,_,rfl,rfl,hu1,tX,b1,_,rfl,.inr hb1,rfl,_,rfl,?_⟩;refine ite2 (fun h1=>?_) (fun h1=>?_)
       . exact⟨_,rfl,Hy,Dg (by rw[List.length_map];omega),g.turn hD,Ad,⟨ps++[(0:Int)+(i:Int)],by simp,by simp;omega⟩,_,rfl⟩
       . exact⟨g,Hy,⟨ps,rfl,by omega⟩,_,rfl⟩
     . rintro ys τ G ⟨g,Hy,⟨ps,rfl,hpl⟩,_⟩;exact key _ _ ⟨D,ps,rfl,g,Hy⟩
   rintro _ H1 ⟨P,ps,rfl,s1,hP⟩;have pe:(ps.map V.int).length=ps.length:=List.length_map ..;refine⟨_,rfl,P,_,rfl,.inl (.of hP),rfl,_,rfl,?_⟩;rw[pe];refine ite2 (fun h1=>?_) (fun h1=>?_)
   . refine⟨Nat.zero_le _,fun T1 hT1=>?_⟩;exact k (.ref T1) [] _ (s1.trans (Same.new hT1)) (TI.mk (.of Ad))
   . have hp:0<(ps.length:Int):=by
      have:¬ps.length=0:=fun z=>h1 (by rw[z];rfl);omega
     refine⟨_,rfl,_,rfl,_,rfl,P,_,rfl,.inl (.of hP),_,_,_,rfl,by rw[pe];exact hp,fun r1 H2 s2 r10 r11=>?_⟩;rw[pe]at r11;refine⟨P,_,_,_,rfl,rfl,.of (s2 _ _ hP),Ni r10 r11,_,rfl,_,rfl,_,rfl,P,_,rfl,.inl (.of (s2 _ _ hP)),_,_,_,rfl,by rw[pe];exact hp,fun r2 H3 s3 r20 r21=>?_⟩;rw[pe]at r21;refine⟨P,_,_,_,rfl,rfl,.of ((s2.trans s3) _ _ hP),Ni r20 r21,Bc (by simp),fun T1 hT1=>?_⟩;exact k (.ref T1) [_,_] _ (((s1.trans s2).trans s3).trans (Same.new hT1)) (TI.mk (.of Ad))
abbrev Ea:Stmt:=top 47
theorem Iw:FnScope ["_law_pieces","_law_paper","_law_place","_law_prime_here","_law_key","_law_number"] ["_law_pieces","_law_paper","_law_place","_law_prime_here"] (Ai Ea):=A7
theorem Yq{f:Addr}{fd:FuncData}(F:Fo K "_law_is_paper" "_law_is_paper" Ea f fd)(T:Ga K mg Al Am Ak Ab)(Ct:Has P w K mg base "_law_level" ["_law_piece"] 1 (B2 K))(Br:Has P w K mg base "_law_whole" ["_law_found"] 1 (D0 K)):Bj P w K mg base Er 2 f fd ["_law_pieces","_law_paper","_law_place","_law_prime_here"] (Mh K):=by
 refine F.ok Iw (fun vs H Q E h=>?_) (fun Cl A outer s H vs Q E hr h=>?_)
 . obtain⟨a,d,xs,sm,p,i,rfl,hL,hd,ok,kk,hil,hown,hsl,k⟩:=h;rfl
 . obtain⟨a,d,xs,sm,p,i,rfl,hL,hd,ok,kk,hil,hown,hsl,k⟩:=h;have Lu:=hr.u8
   refine⟨_,(Ag (Ba (B3 (B0 (Aq cS T.n_isinstance Bo (Aa (pv 1) (Aa (Ge (v:=.ty "dict") rfl T.n_dict Fn rfl) Af))))) (Ah (At Cc)) Az)
    (Ag (DS (C5 PassesOwn.never rfl (Js (pv 1)) (El (K:=K) (n:=2) (by rfl) (Bi (Ax (i:=4) Iw.nd) (Bi (Ax (i:=5) Iw.nd) Ek))) (Ag (Ba (PW.pt (Ha (B3 (B0 (Ao Br hr (Aa (pv 4) Af)))) (Ha (As Ij (pv 4) Aj (Aw _)) (G9 (As To (pv 4) (pv 2) (Aw _)))))) (Ah (At Cc)) Az)
    (Ag (Ba (As Lo (Ao Ct hr (Aa (A5 (A2 (K:=K)) (pv 0) (pv 4) (fun _ _=>rfl)) Af)) (Ao Ct hr (Aa (A5 (A2 (K:=K)) (pv 0) (pv 2) (fun _ _=>rfl)) Af)) (Aw _)) (Ah (At Cc)) Az)
    (Ah (Ba (PW.pt (Ha (B3 (B0 (Ao Br hr (Aa (pv 5) Af)))) (Ha (As Ij (pv 5) Aj (Aw _)) (G9 (As FY (pv 5) (pv 3) (Aw _)))))) (Ah (At Cc)) Az))))))
    (Ah (At (Ix (Ec (dY (u1 Lu)) (pv 2) (pv 1) rfl) (Hc (Ec Cq (U4 (u1 Lu) (pv 1) (pv 2) (fun _ _=>rfl)) Aj (Aw _)))))))),?_⟩
   refine⟨_,rfl,d,cK sm,rfl,.inl hd,_,rfl,?_⟩;refine Da (by decide) ?_;refine Cm (fun σ' H'=>σ'=[some (.ref a),some (.ref d),some (.int (i:Int)),some (.int p),none,none]/\H=H') ?_ fun Hg=>Hg _ _ ⟨rfl,rfl⟩;rintro _ _ ⟨rfl,rfl⟩;refine Ar (fun σ' H'=>∃o4 o5:Option V,σ'=[some (.ref a),some (.ref d),some (.int (i:Int)),some (.int p),o4,o5]/\Same H H') ?_ fun key=>?_;rotate_left
   . refine .inr ⟨d,cK sm,hd,fun hnd o=>?_⟩;refine⟨_,rfl,d,o,cK sm,rfl,Ad,?_⟩
     refine S0 (d:=d) (o:=o) (kvs:=cK sm) (fun m σ G=>∃o4 o5:Option V,σ=[some (.ref a),some (.ref d),some (.int (i:Int)),some (.int p),o4,o5]/\G d=some (.frz o (.dK (cK sm)))/\Iq d H G)
      ⟨none,none,rfl,Ad,fun c q n e=>by rw[Ae n];exact e⟩ (fun m σ G _ ⟨_,_,_,e,_⟩=>e) ?_ ?_
     . rintro m ky x σ G pr hx ⟨o4,o5,rfl,PV,st⟩ JF;obtain⟨q,hq,rfl,rfl⟩:=Tg hx;have vX:=List.mem_of_getElem? hq;obtain⟨q0,q1,q2⟩:=kk q.1 (List.mem_map.mpr ⟨q,vX,rfl⟩);obtain⟨v0,v1⟩:=ok.bd q vX;have sp:=Same.new (o:=.tup [kV (.inl q.1),.int q.2]) JF;have wF:LT K G (.ref a) xs:=Rep.x st hd hL;refine⟨pr,_,rfl,.of Ad,rfl,_,_,rfl,_,_,rfl,rfl,?_⟩;have JH:=Rep.same sp wF;have hd1:=sp _ _ PV;have st1:Iq d H (upd G pr (.tup [kV (.inl q.1),.int q.2])):=fun c r n e=>sp _ _ (st c r n e);generalize upd G pr (.tup [kV (.inl q.1),.int q.2])=G1 at JH hd1 st1 ⊢;refine⟨_,rfl,_,.int q.1,rfl,rfl,_,rfl,?_⟩;refine Da (by simp[Cw,U7]) ?_;refine⟨_,rfl,_,_,rfl,rfl,_,rfl,?_⟩;refine Da (by simp;omega) ?_;refine⟨_,rfl,_,rfl,_,_,rfl,rfl,_,rfl,?_⟩;refine Da (by simp;omega) ?_;obtain⟨us,v,pU,hat,tv⟩:=LT.get JH q0 (show q.1<(xs.length:Int) by omega);obtain⟨ws,w',hws,haw,tw⟩:=LT.get JH (show(0:Int)<=(i:Int) by omega) (show(i:Int)<(xs.length:Int) by omega);rw[Int.toNat_natCast]at tw;refine⟨_,rfl,_,rfl,a,us,_,_,rfl,rfl,pU,hat,v,Cb (xs.getD q.1.toNat []),rfl,.inr tv,_,rfl,_,rfl,a,ws,_,_,rfl,rfl,hws,haw,w',Cb (xs.getD i []),rfl,.inr tw,rfl,_,rfl,?_⟩;refine Da (XX (by rw[show(Cb (xs.getD q.1.toNat [])).length=(xs.getD q.1.toNat []).length from List.length_map ..,show(Cb (xs.getD i [])).length=(xs.getD i []).length from List.length_map ..,Cs,Cs];omega)) ?_;refine⟨_,rfl,_,.int q.2,rfl,rfl,_,rfl,?_⟩;refine Da (by simp[Cw,U7]) ?_;refine⟨_,rfl,_,_,rfl,rfl,_,rfl,?_⟩;refine Da (by simp;omega) ?_;refine⟨_,rfl,_,rfl,_,_,rfl,rfl,_,rfl,?_⟩;refine Da (by simp;omega) ?_;exact⟨_,_,rfl,hd1,st1⟩
     . rintro σ G ⟨o4,o5,rfl,PV,st⟩;refine⟨PV,key _ _ ⟨o4,o5,rfl,fun c q e=>?_⟩⟩;by_cases z:c=d
       . subst z;rw[hd]at e;cases e;exact Ad
       . rw[Ae z];exact st c q z e
   rintro _ H1 ⟨o4,o5,rfl,s1⟩;have hd1:=s1 _ _ hd;have hk:(i:Int)∈A3 sm:=(Qs ok.nz).mp (by rw[hown];decide)
   have hlk:lookI sm (i:Int)=some 1:=by
    obtain⟨r,hr,er⟩:=List.mem_map.mp hk;have e1:=Jx ok.nd hr;rw[er]at e1;have e2:Au sm (i:Int)=r.2:=by unfold Au;rw[e1];rfl
    rw[e1,←e2,hown]
   refine⟨_,rfl,_,rfl,d,cK sm,.inl (i:Int),rfl,hd1,rfl,_,rfl,?_⟩;refine Mc (by rw[Jb,hlk];rfl) ?_;refine⟨_,rfl,_,rfl,d,.int 1,rfl,Va (.inl hd1) hlk,rfl,?_⟩;simpa using k H1 s1
abbrev Dp:Stmt:=top 49
theorem G8:FnScope ["_law_found","_law_due","_law_one","_law_other"] ["_law_found","_law_due"] (Ai Dp):=A7
theorem V7{f:Addr}{fd:FuncData}(F:Fo K "_law_are_pairs" "_law_are_pairs" Dp f fd)(T:Ga K mg Al Am Ak Ab)(Br:Has P w K mg base "_law_whole" ["_law_found"] 1 (D0 K)):Bj P w K mg base Er 2 f fd ["_law_found","_law_due"] (Ke K):=by
 refine F.ok G8 (fun vs H Q E h=>?_) (fun Cl A outer s H vs Q E hr h=>?_)
 . obtain⟨a,b,es,bs,rfl,hA,hB,k⟩:=h;rfl
 . obtain⟨a,b,es,bs,rfl,hA,hB,k⟩:=h;have Lu:=hr.u8
   refine⟨_,(Ag (Ba (PW.pt (Ha (B3 (B0 (Aq (Ed (K:=K)) T.n_isinstance Bo (Aa (pv 0) (Aa (Ge (v:=.ty "list") rfl T.n_list Pw rfl) Af))))) (G9 (As Lo (Aq (An (K:=K)) T.n_len boot_len (Aa (pv 0) Af)) (Aq (An (K:=K)) T.n_len boot_len (Aa (pv 1) Af)) (Aw _))))) (Ah (At Cc)) Az)
    (Ag (C5 PassesOwn.never rfl (RV (K:=K) (by rfl) T.n_zip (Aa (pv 0) (Aa (pv 1) Af))) (El (K:=K) (n:=2) (by rfl) (Bi (Ax (i:=2) G8.nd) (Bi (Ax (i:=3) G8.nd) Ek))) (Ag (Ba (PW.pt (Ha (B3 (B0 (Aq (Ed (K:=K)) T.n_isinstance Bo (Aa (pv 2) (Aa (Ge (v:=.ty "tuple") rfl T.n_tuple Ew rfl) Af))))) (Ha (As Lo (Aq (An (K:=K)) T.n_len boot_len (Aa (pv 2) Af)) Aj (Aw _)) (G9 (B3 (B0 (Ao Br hr (Aa (A5 (Be (K:=K)) (pv 2) Aj (fun _ _=>rfl)) Af)))))))) (Ah (At Cc)) Az)
    (Ag (Ba (PW.pt (Kl (As fY (A5 (Be (K:=K)) (pv 2) Aj (fun _ _=>rfl)) Cu (Aw _)) (Ig (B3 (B0 (Ao Br hr (Aa (A5 (Be (K:=K)) (pv 2) Aj (fun _ _=>rfl)) Af))))))) (Ah (At Cc)) Az)
    (Ah (Ba (As (AE (K:=K) Lu) (pv 2) (pv 3) (Aw _)) (Ah (At Cc)) Az)))))
    (Ah (At Cc)))),?_⟩
   obtain⟨_,us,z,Ur,ra⟩:=id hA;cases z;obtain⟨_,ws,z,d9,rb⟩:=id hB;cases z;have DG:=ra.length;have wsl:=rb.length;refine⟨_,rfl,_,_,_,rfl,.inr (.inr (.inr (.inr (.inl rfl)))),hA,_,rfl,?_⟩;refine Da (by simp[U7]) ?_;refine⟨_,rfl,a,us,rfl,.inl Ur,_,rfl,b,ws,rfl,.inl d9,rfl,_,rfl,?_⟩;refine Da (by simp[DG,wsl]) ?_;refine Cm (fun σ' H'=>σ'=[some (.ref a),some (.ref b),none,none]/\H=H') ?_ fun Hg=>Hg _ _ ⟨rfl,rfl⟩;rintro _ _ ⟨rfl,rfl⟩;refine⟨_,rfl,_,rfl,a,b,rfl,⟨_,Ur⟩,⟨_,d9⟩,?_⟩
   refine PZ (K:=K) (a:=a) (b:=b) (xs:=us) (ys:=ws) (n:=us.length) (by rw[DG,wsl,Nat.min_self]) (fun i σ G=>∃o2 o3,σ=[some (.ref a),some (.ref b),o2,o3]/\Same H G)
    ⟨none,none,rfl,Same.refl H⟩ (fun i σ G _ ⟨_,_,_,s1⟩=>⟨s1.seq Ur,s1.seq d9⟩) ?_ ?_
   . rintro i u w' σ G pr hu hw ⟨o2,o3,rfl,s1⟩ hp;obtain⟨d,hd,ru⟩:=ra.getV hu;obtain⟨d',hd',rw'⟩:=rb.getV hw;obtain rfl:d=d':=by rw[hd]at hd';exact Option.some.inj hd'
     obtain⟨j,_,rfl⟩:=List.mem_map.mp (List.mem_of_getElem? hd);have s2:=s1.trans (Same.new (o:=.tup [u,w']) hp);refine⟨pr,_,rfl,.of Ad,rfl,_,_,rfl,_,_,rfl,rfl,?_⟩;generalize upd G pr (.tup [u,w'])=G1 at s2 ⊢;have YO:=Rep.same s2 ru;obtain⟨au,vs,rfl,uE,rv⟩:=id YO;obtain⟨v1,vs1,rfl,r1,rv⟩:=rv;obtain⟨v2,YD,rfl,r2,rv⟩:=rv;obtain rfl:YD=[]:=rv;obtain rfl:v1=.int (j:Int):=r1;refine⟨_,rfl,_,_,B7 bs j,rfl,.inr (.inr (.inr (.inl rfl))),YO,_,rfl,?_⟩;refine Da (by simp[U7,B7]) ?_;refine⟨_,rfl,au,_,rfl,.inr uE,rfl,_,rfl,?_⟩;refine Da (by simp) ?_;refine⟨_,rfl,au,_,_,_,rfl,rfl,uE,TX _ _,_,.int (j:Int),rfl,rfl,_,rfl,?_⟩;refine Da (by simp[Cw,U7]) ?_;refine Cm (fun σ' H'=>σ'=[some (.ref a),some (.ref b),some (.ref au),some w']/\G1=H') ?_ fun Hg=>Hg _ _ ⟨rfl,rfl⟩;rintro _ _ ⟨rfl,rfl⟩;refine Ar (t:=T8 _ _ _) (fun σ' H'=>σ'=[some (.ref a),some (.ref b),some (.ref au),some w']/\G1=H') ?_ fun key=>?_;rotate_left
     . refine⟨_,rfl,au,_,_,_,rfl,rfl,uE,GR _ _ _,rfl,_,rfl,?_⟩;by_cases hn:v2=.non
       . refine Da (by simp[hn]) ?_;refine Da (by decide) ?_;exact key _ _ ⟨rfl,rfl⟩
       refine Mc (by simpa using hn) ?_
       obtain⟨e,rfl⟩:∃e:Int,v2=.int e:=by
        unfold Us at r2;cases hl:lookI bs (j:Int) with
        | none=>rw[hl]at r2;exact absurd r2 hn
        | some e=>rw[hl]at r2;exact⟨e,r2⟩
       refine⟨_,rfl,au,_,_,_,rfl,rfl,uE,GR _ _ _,_,.int e,rfl,rfl,_,rfl,?_⟩;refine Da (by simp[Cw,U7]) ?_;exact key _ _ ⟨rfl,rfl⟩
     rintro _ _ ⟨rfl,rfl⟩;refine⟨_,rfl,_,rfl,B7 bs j,B7 bs j,YO,Rep.same s2 rw',Nat.le_trans (BQ bs j) (by decide),_,rfl,?_⟩;refine Da (by rw[Fy];decide) ?_;exact⟨_,_,rfl,s2⟩
   . rintro σ G ⟨o2,o3,rfl,s1⟩;exact k G s1
abbrev Dq:Stmt:=top 50
theorem D1:FnScope ["_law_pieces","_law_due","_law_level_here","_law_stage","_law_many","_law_born","_law_end"] ["_law_pieces","_law_due","_law_level_here","_law_stage"] (Ai Dq):=A7
theorem V8{f:Addr}{fd:FuncData}(F:Fo K "_law_alive_due" "_law_alive_due" Dq f fd)(T:Ga K mg Al Am Ak Ab)(Ct:Has P w K mg base "_law_level" ["_law_piece"] 1 (B2 K)):Bj P w K mg base Er 2 f fd ["_law_pieces","_law_due","_law_level_here","_law_stage"] (o0 K):=by
 refine F.ok D1 (fun vs H Q E h=>?_) (fun Cl A outer s H vs Q E hr h=>?_)
 . obtain⟨a,b,kk,st,xs,es,bs,rfl,hL,hB,hel,k⟩:=h;rfl
 . obtain⟨a,b,kk,st,xs,es,bs,rfl,hL,hB,hel,k⟩:=h
   refine⟨_,(Ag (Av (i:=4) D1.nd Aj)
    (Ag (C5 PassesOwn.never rfl (Hf (K:=K) (pv 1)) (El (K:=K) (n:=2) (by rfl) (Bi (Ax (i:=5) D1.nd) (Bi (Ax (i:=6) D1.nd) Ek))) (Ah (Ba (PW.pt (Kl (As Cq (Ao Ct hr (Aa (A5 (A2 (K:=K)) (pv 0) (pv 5) (fun _ _=>rfl)) Af)) (pv 2) (Aw _)) (Kl (As Ij (pv 5) (pv 3) (Aw _)) (Ig (PW.pt (Ha (As Pc (pv 6) Cu (Aw _)) (G9 (As FY (pv 6) (pv 3) (Aw _))))))))) (Ah (rT (i:=4) D1.nd (by rfl) (by first | exact Or.inl rfl | exact Or.inr rfl) Aj sU)) Az)))
    (Ah (At (pv 4))))),?_⟩
   obtain⟨_,us,z,Ur,ra⟩:=id hL;cases z;obtain⟨_,ws,z,d9,rb⟩:=id hB;cases z;have wl:ws.length=(Bf es es.length).length:=by rw[rb.length];exact List.length_map ..
   refine P4 [some (.ref a),some (.ref b),some (.int kk),some (.int st),some (.int 0),none,none] H (fun _ h=>h) ?_;refine Ar (fun σ' H'=>∃(o5 o6:Option V),σ'=[some (.ref a),some (.ref b),some (.int kk),some (.int st),some (.int (Pz xs es bs kk st:Nat)),o5,o6]/\H=H') ?_ fun key=>?_;rotate_left
   . refine⟨_,rfl,b,rfl,⟨_,d9⟩,?_⟩
     refine for_list (K:=K) (a:=b) (xs:=ws) (fun i σ G=>∃(o5 o6:Option V),σ=[some (.ref a),some (.ref b),some (.int kk),some (.int st),some (.int ((((Bf es es.length).take i).filter fun j=>Iy xs kk j&&aliveB bs st j).length:Nat)),o5,o6]/\H=G)
      ⟨none,none,rfl,rfl⟩ (fun i σ G _ ⟨_,_,_,e⟩=>by rw[←e];exact d9) ?_ ?_
     . rintro i v σ G hv ⟨o5,o6,rfl,rfl⟩;have hi:i<(Bf es es.length).length:=by rw[←wl];exact(List.getElem?_eq_some_iff.mp hv).1
       obtain⟨j,hj⟩:∃j,(Bf es es.length)[i]?=some j:=⟨_,List.getElem?_eq_getElem hi⟩
       obtain⟨hjl,_⟩:=J7.mp (List.mem_of_getElem? hj);obtain⟨d,hd,rv⟩:=rb.getV hv
       obtain rfl:d=B7 bs j:=by
        rw[show De es bs=(Bf es es.length).map (B7 bs) from rfl,List.getElem?_map,hj]at hd;exact(Option.some.inj hd).symm
       obtain⟨t,rfl,UW⟩:=Vv rv;obtain⟨us',v',pU,hat,tv⟩:=LT.get hL (show(0:Int)<=(j:Int) by omega) (show(j:Int)<(xs.length:Int) by omega);rw[Int.toNat_natCast]at tv;have qW:(Bf es es.length).take (i+1)=(Bf es es.length).take i++[j]:=by rw[List.take_succ,hj];rfl
       refine⟨t,_,rfl,UW,rfl,_,_,rfl,_,_,rfl,rfl,?_⟩
       have yes:Iy xs kk j=true->aliveB bs st j=true->((((Bf es es.length).take (i+1)).filter fun j=>Iy xs kk j&&aliveB bs st j).length:Int)=((((Bf es es.length).take i).filter fun j=>Iy xs kk j&&aliveB bs st j).length:Int)+1:=fun h1 h2=>by
        rw[qW,List.filter_append,List.filter_cons_of_pos (by rw[h1,h2];rfl),List.length_append];simp
       have no:¬(Iy xs kk j&&aliveB bs st j)=true->(((Bf es es.length).take (i+1)).filter fun j=>Iy xs kk j&&aliveB bs st j)=(((Bf es es.length).take i).filter fun j=>Iy xs kk j&&aliveB bs st j):=fun h1=>by
        rw[qW,List.filter_append,List.filter_cons_of_neg (p:=fun j=>Iy xs kk j&&aliveB bs st j) h1,List.filter_nil,List.append_nil]
       refine⟨_,rfl,_,rfl,a,us',_,_,rfl,rfl,pU,hat,v',Cb (xs.getD j []),rfl,.inr tv,_,rfl,rfl,_,rfl,?_⟩;rw[show(Cb (xs.getD j [])).length=(xs.getD j []).length from List.length_map ..];by_cases h1:Bq (xs.getD j []).length=kk;rotate_left
       . refine Da (by simpa using h1) ?_;refine Da (by decide) ?_;have hl1:Iy xs kk j=false:=decide_eq_false h1;rw[←no (by rw[hl1];simp)];exact⟨_,_,rfl,rfl⟩
       have hl1:Iy xs kk j=true:=decide_eq_true h1;refine Mc (by simpa using h1) ?_;refine⟨_,rfl,_,rfl,_,_,rfl,rfl,_,rfl,?_⟩;by_cases h2:(j:Int)<st;rotate_left
       . refine Da (by simpa using h2) ?_;refine Da (by decide) ?_;have hl2:aliveB bs st j=false:=by unfold aliveB;rw[decide_eq_false h2];rfl
         rw[←no (by rw[hl2];simp)];exact⟨_,_,rfl,rfl⟩
       refine Mc (by simpa using h2) ?_;refine⟨_,rfl,rfl,_,rfl,?_⟩;unfold Ma;cases hl:lookI bs (j:Int) with
       | none =>
         have hl2:aliveB bs st j=true:=by unfold aliveB;rw[decide_eq_true h2,hl];rfl
         refine Mc (by simp) ?_;refine Mc rfl ?_;refine⟨_,rfl,_,_,rfl,rfl,?_⟩;exact⟨_,_,by rw[yes hl1 hl2];rfl,rfl⟩
       | some e =>
         refine Da (by simp) ?_;refine⟨_,rfl,_,rfl,_,_,rfl,rfl,_,rfl,?_⟩;by_cases h3:st<=e
         . have hl2:aliveB bs st j=true:=by unfold aliveB;rw[decide_eq_true h2,hl];exact decide_eq_true h3
           refine Mc (by simpa using h3) ?_;refine⟨_,rfl,_,_,rfl,rfl,?_⟩;exact⟨_,_,by rw[yes hl1 hl2];rfl,rfl⟩
         . have hl2:aliveB bs st j=false:=by unfold aliveB;rw[decide_eq_true h2,hl];exact decide_eq_false h3
           refine Da (by simpa using h3) ?_;rw[←no (by rw[hl2];simp)];exact⟨_,_,rfl,rfl⟩
     . rintro σ G ⟨o5,o6,rfl,rfl⟩;rw[wl,List.take_length];exact key _ _ ⟨o5,o6,rfl,rfl⟩
   rintro _ _ ⟨o5,o6,rfl,rfl⟩;exact⟨_,rfl,k⟩
abbrev Gp:Stmt:=top 56
theorem O7:FnScope ["_law_growth","_law_pieces","_law_many","_law_k"] ["_law_growth","_law_pieces","_law_many"] (Ai Gp):=A7
theorem DZ{f:Addr}{fd:FuncData}(F:Fo K "_law_taken" "_law_taken" Gp f fd)(T:Ga K mg Al Am Ak Ab)(En:J9 P w K mg base Ab "take_back" ["self"] 1 (Vk K Ab)):Bj P w K mg base Er 2 f fd ["_law_growth","_law_pieces","_law_many"] (Ro K Ab):=by
 refine F.ok O7 (fun vs H Q E h=>?_) (fun Cl A outer s H vs Q E hr h=>?_)
 . obtain⟨g,pc,sh,ed,en,a,W,Z,m,p,xs,es,ss,bs,rfl,hm0,hm1,x,hW,hM,hA,k⟩:=h;rfl
 . obtain⟨g,pc,sh,ed,en,a,W,Z,m,p,xs,es,ss,bs,rfl,hm0,hm1,x,hW,hM,hA,k⟩:=h;have Lu:=hr.u8
   refine⟨_,(Ag (C5 PassesOwn.never rfl (Ch (by rfl) T.n_range (Aa (pv 2) Af)) (Ax (i:=3) O7.nd) (Ah (Ba (As To (Aq (An (K:=K)) T.n_len boot_len (Aa (pv 1) Af)) Aj (Aw _)) (Ag (Ba (As (AE (K:=K) Lu) (Jt (pv 0) T.cl_Growth En hr) (A5 (A2 (K:=K)) (pv 1) (Qb Kb Aj) (fun _ _=>rfl)) (Aw _)) (Ah (At Cu)) Az)
    (Ah (Av (i:=1) O7.nd (V1 (cA (K:=K)) (pv 1) FU (U3 (Qb Kb Aj)))))) Az)))
    (Ah (At (pv 1)))),?_⟩
   refine Ar (t:=DJ _ _ _) (fun σ' G=>∃(a':Addr) (o3:Option V) (xs':LLInt) (es' ss':List Ms) (bs':Ms),σ'=[some (.ref g),some (.ref a'),some (.int m),o3]/\Hz pc sh ed en H G/\Bl K Ab G Z g pc sh ed en p xs' es' ss' bs'/\LH K G W a' xs') ?_ fun key=>?_;rotate_left
   . refine⟨_,rfl,_,rfl,by omega,by omega,?_⟩
     refine Dv (lo:=0) (n:=m.toNat) (fun i σ' G=>∃(a':Addr) (o3:Option V) (xs':LLInt) (es' ss':List Ms) (bs':Ms),σ'=[some (.ref g),some (.ref a'),some (.int m),o3]/\Hz pc sh ed en H G/\Bl K Ab G Z g pc sh ed en p xs' es' ss' bs'/\LH K G W a' xs')
      ⟨a,none,xs,es,ss,bs,rfl,Hz.of (Same.refl H),x,hA⟩ ?_ ?_
     . rintro i σ' G hi ⟨a',o3,xs',es',ss',bs',rfl,fr,x',tM⟩;have hMG:=x'.at_.mutW fr hM;obtain⟨us,h1,h2⟩:=id tM;have hq1:=Bn _ _ h1;have OI:us.length=xs'.length:=by have:=h2.length;simpa using this
       refine⟨_,rfl,a',us,rfl,.inl (.of hq1),_,_,rfl,rfl,_,rfl,?_⟩;by_cases hz:xs'=[]
       . refine Da (by rw[OI,hz];decide) ?_;exact⟨a',_,xs',es',ss',bs',rfl,fr,x',tM⟩
       have hpos:=List.length_pos_iff.mpr hz;refine Mc (by simp;omega) ?_;obtain⟨xs0,q,rfl,QS⟩:=P7 (l:=xs') (n:=xs'.length-1) (by omega);obtain⟨OF,y,rfl,r0,ty⟩:=R5 h2;obtain⟨dx,fs,hg,l1,l2,l3,l4,l5,lm⟩:=x'.at_.ob;refine⟨_,rfl,g,dx,fs,rfl,hg,lm.2.2.1,g,pc,sh,ed,en,Z,p,xs0,q,es',ss',bs',rfl,x',fun v es2 ss2 bs2 G1 QV x1 tv=>?_⟩;have zX:=LH.fr x'.at_ QV hW tM;have XQ:=x1.at_.mutW QV hMG;obtain⟨yE,h3,h4⟩:=id zX
       obtain rfl:OF++[y]=yE:=by
        have:=(QV.hid hW) _ _ h1;rw[h3]at this;exact(HO.lst.inj (Option.some.inj this)).symm
       have hq2:=Bn _ _ h3;obtain⟨UM,y2,ez,r1,ty1⟩:=R5 h4;obtain⟨rfl,ey⟩:=List.append_inj' ez rfl;obtain rfl:y=y2:=by simpa using ey
       refine⟨_,rfl,_,rfl,a',_,-1,y,rfl,rfl,.of hq2,QF _ _,tI q,tI q,tv,ty1,?_,_,rfl,?_⟩
       . have:=Xf [q];simp only[List.map_cons,List.map_nil,deps]at this;omega
       refine Da (by rw[Fy];decide) ?_;refine⟨_,rfl,_,rfl,_,rfl,a',_,rfl,.of hq2,fun c hc=>?_⟩;rw[nM];have s2:=Same.new (o:=.lst OF) hc;exact⟨c,_,xs0,es2,ss2,bs2,rfl,(fr.trans QV).trans (Hz.of s2),x1.same s2,LH.new XQ hc Ad (Reps.same s2 r1)⟩
     . rintro σ' G ⟨a',o3,xs',es',ss',bs',rfl,fr,x',tM⟩;exact key _ _ ⟨a',o3,xs',es',ss',bs',rfl,fr,x',tM⟩
   rintro _ G ⟨a',o3,xs',es',ss',bs',rfl,fr,x',tM⟩;exact⟨_,rfl,k a' xs' es' ss' bs' G fr x' tM⟩
abbrev Do:Stmt:=top 57
theorem Vt:FnScope ["_law_told","_law_many"] ["_law_told","_law_many"] (Ai Do):=A7
theorem V6{f:Addr}{fd:FuncData}(F:Fo K "_law_is_misfit" "_law_is_misfit" Do f fd)(T:Ga K mg Al Am Ak Ab)(Br:Has P w K mg base "_law_whole" ["_law_found"] 1 (D0 K)):Bj P w K mg base Er 2 f fd ["_law_told","_law_many"] (Kd K):=by
 refine F.ok Vt (fun vs H Q E h=>?_) (fun Cl A outer s H vs Q E hr h=>?_)
 . obtain⟨t,n,rfl,ht,k⟩:=h;rfl
 . obtain⟨t,n,rfl,ht,k⟩:=h;refine⟨_,(Ah (At (Ix (Ec Cq (A5 (Be (K:=K)) (pv 0) Aj (fun _ _=>rfl)) Aj (Aw _)) (Ix (Ao Br hr (Aa (A5 (Be (K:=K)) (pv 0) Aj (fun _ _=>rfl)) Af)) (Hc (Ec Cq (A5 (Be (K:=K)) (pv 0) Aj (fun _ _=>rfl)) (pv 1) (Aw _))))))),?_⟩;refine⟨_,rfl,t,_,_,_,rfl,rfl,ht,TX _ _,rfl,_,rfl,?_⟩;refine Mc (by simp) ?_;refine⟨_,rfl,t,_,_,_,rfl,rfl,ht,GR _ _ _,_,.int n,rfl,rfl,_,rfl,?_⟩;refine Mc (by simp[Cw,U7]) ?_;refine⟨_,rfl,t,_,_,_,rfl,rfl,ht,GR _ _ _,_,rfl,rfl,?_⟩;simpa using k
abbrev Bx:Stmt:=top 8
theorem Mn:FnScope ["shape","thing","level"] ["shape","thing","level"] (Ai Bx):=A7
theorem Mt{f:Addr}{fd:FuncData}(F:Fo K "is_place_of_level" "is_place_of_level" Bx f fd)(T:Ga K mg Al Am Ak Ab)(A4:Has P w K mg base "is_whole_below" ["thing","bound"] 2 (Bv K))(Dt:Has P w K mg base "level_of" ["piece"] 1 (B2 K)):Bj P w K mg base Er 3 f fd ["shape","thing","level"] (Dz K):=by
 refine F.ok Mn (fun vs H Q E h=>?_) (fun Cl A outer s H vs Q E hr h=>?_)
 . obtain⟨a,x,d,l,xs,rfl,hL,hx,k⟩:=h;rfl
 . obtain⟨a,x,d,l,xs,rfl,hL,hx,k⟩:=h;refine⟨_,(Ah (At (Ix (Ao A4 hr (Aa (pv 1) (Aa (Aq (An (K:=K)) T.n_len boot_len (Aa (pv 0) Af)) Af))) (Hc (Ec Cq (Ao Dt hr (Aa (A5 (A2 (K:=K)) (pv 0) (pv 1) (fun _ _=>rfl)) Af)) (pv 2) (Aw _)))))),?_⟩;obtain⟨us,hq,OI⟩:=LT.len hL;refine⟨_,rfl,_,rfl,a,us,rfl,.inl hq,x,d,_,rfl,hx,_,rfl,?_⟩;rw[OI];refine ite2 (fun e=>?_) (fun e=>?_)
   . obtain⟨i,rfl⟩:∃i,d=.int i:=by cases d<;>first | exact⟨_,rfl⟩ | (exfalso;simp[Lg]at e)
     cases (show x=.int i from hx);have e':(decide (0<=i)&&decide (i<(xs.length:Int)))=true:=e;have h0:0<=i/\i<(xs.length:Int):=by simpa using e'
     obtain⟨us',v,hq',hv,tv⟩:=LT.get hL h0.1 h0.2;refine⟨_,rfl,_,rfl,a,us',i,v,rfl,rfl,hq',hv,v,_,rfl,.inr tv,_,rfl,rfl,?_⟩
     have e2:Bh xs (.int i) l=decide (Bq (Cb (xs.getD i.toNat [])).length=l):=by
      show(decide (0<=i)&&decide (i<(xs.length:Int))&&decide (Bq (xs.getD i.toNat []).length=l))=_;rw[e'];simp[Cb]
     rw[e2]at k
     have e3:decide (V.int (Bq (Cb (xs.getD i.toNat [])).length)=V.int l)=decide (Bq (Cb (xs.getD i.toNat [])).length=l):=by
      by_cases z:Bq (Cb (xs.getD i.toNat [])).length=l
      . simp[z]
      . simp[z]
     rw[e3];exact k
   . have e2:Bh xs d l=false:=by
      cases d with
      | int i =>
        have e':¬(decide (0<=i)&&decide (i<(xs.length:Int)))=true:=e;show(decide (0<=i)&&decide (i<(xs.length:Int))&&decide (Bq (xs.getD i.toNat []).length=l))=false;rw[Bool.eq_false_iff.mpr e'];rfl
      | _=>rfl
     rw[e2]at k;exact k
abbrev Dl:Stmt:=top 25
theorem Vq:FnScope ["k","bound"] ["k","bound"] (Ai Dl):=A7
theorem V4{f:Addr}{fd:FuncData}(F:Fo K "check_level" "check_level" Dl f fd)(T:Ga K mg Al Am Ak Ab)(A4:Has P w K mg base "is_whole_below" ["thing","bound"] 2 (Bv K)):Bj P w K mg base Er 3 f fd ["k","bound"] (Ri K):=by
 refine F.ok Vq (fun vs H Q E h=>?_) (fun Cl A outer s H vs Q E hr h=>?_)
 . obtain⟨i,b,rfl,h0,h1,k⟩:=h;rfl
 . obtain⟨i,b,rfl,h0,h1,k⟩:=h;refine⟨_,(Ah (Ba (B3 (B0 (Ao A4 hr (Aa (pv 0) (Aa (pv 1) Af))))) (Ah Mo) Az)),?_⟩
   have hb:Lg (.int i) b=true:=by
    show(decide (0<=i)&&decide (i<b))=true;rw[decide_eq_true h0,decide_eq_true h1];rfl
   refine⟨_,rfl,_,rfl,.int i,.int i,b,rfl,rfl,_,rfl,?_⟩;rw[hb];refine Da (by decide) ?_;exact k
abbrev Fe:Stmt:=top 30
theorem bI:FnScope ["thing"] ["thing"] (Ai Fe):=A7
theorem bS{f:Addr}{fd:FuncData}(F:Fo K "is_prime" "is_prime" Fe f fd)(T:Ga K mg Al Am Ak Ab)(A4:Has P w K mg base "is_whole_below" ["thing","bound"] 2 (Bv K)):Bj P w K mg base Er 3 f fd ["thing"] (Rj K):=by
 refine F.ok bI (fun vs H Q E h=>?_) (fun Cl A outer s H vs Q E hr h=>?_)
 . obtain⟨p,rfl,hP,UJ,k⟩:=h;rfl
 . obtain⟨p,rfl,hP,UJ,k⟩:=h;obtain⟨On,Z1⟩:=T.x_PRIME_BOUND
   refine⟨_,(Ag (Ba (PW.pt (Ha (B3 (B0 (Ao A4 hr (Aa (pv 0) (Aa (Qc (v:=.int 98) (by rfl) Z1 ⟨_,rfl⟩) Af))))) (G9 (As Ij (pv 0) Aj (Aw _))))) (Ah (At Cc)) Az)
    (Ah (At (Aq (Wr (K:=K) (by rfl)) T.n_all j8 (Aa (Eb (N':=["number","thing"]) (cap:=[none,some 0]) (by rfl) (by kernel_rfl) (Sa (by rfl) T.n_range (Aa Aj (Aa (pv 0) Af))) (fun _ _ _ _=>(Ax (i:=0) VL)) (fun _ _ _ _=>Ih) (fun _ _ _ _=>(Ec Lo (A6 Bs (pv 1) (pv 0)) Aj (Aw _)))) Af))))),?_⟩
   have h2:=hP.two;refine⟨_,rfl,.int p,.int p,98,rfl,rfl,_,rfl,?_⟩
   have hb:Lg (.int p) 98=true:=by
    show(decide (0<=p)&&decide (p<98))=true;rw[decide_eq_true (by omega),decide_eq_true UJ];rfl
   rw[hb];refine Da (by simp) ?_;refine⟨_,rfl,_,_,rfl,rfl,_,rfl,?_⟩;refine Da (by simp;omega) ?_;refine⟨_,rfl,_,_,rfl,⟨by decide,by decide,by omega,by omega⟩,fun D hD=>?_⟩
   refine Tt (fun j ys τ H1=>j<=(p-2).toNat/\Same H H1/\H1 D=some (.lst ys)/\(∃bs:List Bool,ys=bs.map V.bl/\bs.length=j/\bs.all id=true)/\∃o,τ=[o,some (.int p)])
    ⟨Nat.zero_le _,Same.new hD,Ad,⟨[],rfl,rfl,rfl⟩,none,rfl⟩ ?_ ?_
   . rintro j ys τ H1 hj ⟨_,s1,L9,⟨bs,rfl,wD,hba⟩,o,rfl⟩;have hj2:j<(p-2).toNat:=by omega
     refine⟨_,rfl,_,rfl,_,_,rfl,rfl,(by show(0:Int)<2+(j:Int);omega),rfl,?_⟩;refine⟨L9,Dg (by rw[List.length_map];omega),by omega,s1.turn hD,Ad,⟨bs++[!decide (V.int (p%(2+(j:Int)))=V.int 0)],?_,by simp[wD],?_⟩,_,rfl⟩
     . rw[List.map_append];rfl
     . rw[List.all_append,hba];have:=hP.free (2+(j:Int)) (by omega) (by omega);simp[this]
   . rintro ys τ H1 ⟨_,s1,L9,⟨bs,rfl,wD,hba⟩,_⟩;refine⟨D,bs,rfl,.of L9,?_⟩;rw[hba];exact k _ s1
abbrev Cg:Stmt:=Gh (top 34) 2
theorem B6:FnScope ["self","sheet","edge","birth","ender","by"] ["self","sheet","edge"] (Ai Cg):=A7
theorem Qg{f:Addr}{fd:FuncData}(F:Fo K "settled" "Growth.settled" Cg f fd)(T:Ga K mg Al Am Ak Ab)(Hl:Has P w K mg base "counted" ["chain","prime"] 1 (Kf K))(Kz:Has P w K mg base "turned_over" ["number","prime"] 2 (Vg K))(GG:Has P w K mg base "plus" ["one","other"] 2 (p6 K))(AJ:Has P w K mg base "times" ["number","chain"] 1 (Vf K)):Bj P w K mg base Er 3 f fd ["self","sheet","edge"] (Mi K Ab):=by
 refine F.ok B6 (fun vs H Q E h=>?_) (fun Cl A outer s H vs Q E hr h=>?_)
 . obtain⟨g,pc,sh,ed,en,sa,ea,Z,p,xs,es,ss,bs,ms,me,l,pq,rfl,x,hs,he,zin,nse,nee,oks,oke,ks,ke,KG,nwk,hlq,k⟩:=h;rfl
 . obtain⟨g,pc,sh,ed,en,sa,ea,Z,p,xs,es,ss,bs,ms,me,l,pq,rfl,x,hs,he,zin,nse,nee,oks,oke,ks,ke,KG,nwk,hlq,k⟩:=h;have Lu:=hr.u8
   refine⟨_,(Ag (BK PassesOwn.never (PW.pt (Kl (As To (Aq Oa T.n_len boot_len (Aa (pv 2) Af)) Aj (Aw _)) (Ig (As (dY (u1 Lu)) (Aq (N9 (by rfl)) T.n_max Fm (Aa (pv 2) Af)) (Bk (K:=K) (pv 0)) rfl)))) (Ag (Av (i:=3) B6.nd (Aq (N9 (by rfl)) T.n_max Fm (Aa (pv 2) Af)))
    (Ag (Av (i:=4) B6.nd (U4 (u1 Lu) (Bk (K:=K) (pv 0)) (pv 3) (fun _ _=>rfl)))
    (Ag (Av (i:=5) B6.nd (A6 op_mulX (Qb Kb (U4 (u1 Lu) (pv 2) (pv 3) (fun _ _=>rfl))) (Ao Kz hr (Aa (U4 (u1 Lu) (A5 (A2 (K:=K)) (Bk (K:=K) (pv 0)) (pv 4) (fun _ _=>rfl)) (pv 3) (fun _ _=>rfl)) (Aa (Bk (K:=K) (pv 0)) Af)))))
    (Ag (Av (i:=1) B6.nd (Ao Hl hr (Aa (Ao GG hr (Aa (pv 1) (Aa (Ao AJ hr (Aa (pv 5) (Aa (A5 (A2 (K:=K)) (Bk (K:=K) (pv 0)) (pv 4) (fun _ _=>rfl)) Af))) Af))) (Aa (Bk (K:=K) (pv 0)) Af))))
    (Ah (Av (i:=2) B6.nd (Ao Hl hr (Aa (Ao GG hr (Aa (pv 2) (Aa (Ao AJ hr (Aa (pv 5) (Aa (A5 (A2 (K:=K)) (Bk (K:=K) (pv 0)) (pv 4) (fun _ _=>rfl)) Af))) Af))) (Aa (Bk (K:=K) (pv 0)) Af))))))))))
    (Ah (At (By (Aa (pv 1) (Aa (pv 2) Af)))))),?_⟩
   obtain⟨dx,fs,hg,l1,l2,l3,l4,l5,lm⟩:=x.ob;have hp2:=x.pr.1.two;have Sv:=x.pr.2;have n40:=x.gw.n40;refine Ar (fun σ' H'=>∃(s' e':Addr) (ms' E6:Ms) (o3 o4 o5:Option V),σ'=[some (.ref g),some (.ref s'),some (.ref e'),o3,o4,o5]/\Same H H'/\H' s'=some (.dK (cK ms'))/\H' e'=some (.dK (cK E6))/\¬Z s'/\¬Z e'/\Q9 p ms'/\Q9 p E6/\(∀x∈A3 ms',0<=x/\x<=(xs.length:Int))/\(∀x∈A3 E6,0<=x/\x<(xs.length:Int)/\(xs.getD x.toNat []).length-1+1=l)/\Lz p xs pq ms' E6/\(∀b,Nk E6 b->lookI bs b=none)) ?_ fun key=>?_;rotate_left
   . refine⟨fun m σ' H'=>∃(s' e':Addr) (ms' E6:Ms) (o3 o4 o5:Option V),σ'=[some (.ref g),some (.ref s'),some (.ref e'),o3,o4,o5]/\Same H H'/\H' s'=some (.dK (cK ms'))/\H' e'=some (.dK (cK E6))/\¬Z s'/\¬Z e'/\Q9 p ms'/\Q9 p E6/\(∀x∈A3 ms',0<=x/\x<=(xs.length:Int))/\(∀x∈A3 E6,0<=x/\x<(xs.length:Int)/\(xs.getD x.toNat []).length-1+1=l)/\Lz p xs pq ms' E6/\∀x∈A3 E6,x<(m:Int),⟨xs.length,sa,ea,ms,me,none,none,none,rfl,Same.refl H,hs,he,nse,nee,oks,oke,ks,ke,nwk,fun x hx=>(ke x hx).2.1⟩,?_⟩;rintro m σ G ⟨s',e',ms',E6,o3,o4,o5,rfl,g1,hs',he',ns',ne',lS,kH,k1,k2,hem,hlt⟩;have xg:=x.same g1;have qT:=g1 _ _ hg;refine⟨_,rfl,e',cK E6,rfl,he',_,_,rfl,rfl,_,rfl,?_⟩;by_cases hz:E6=[]
     . subst hz;refine ite2 (fun h1=>absurd h1 (by simp[cK])) (fun _=>?_);refine Da (by simp) ?_;exact key _ _ ⟨s',e',ms',[],o3,o4,o5,rfl,g1,hs',he',ns',ne',lS,kH,k1,k2,hem,fun b hb=>(Nk.no hb).elim⟩
     have hlen:0<E6.length:=List.length_pos_iff.mpr hz;refine Mc (by rw[Hv];simpa using hlen) ?_;refine⟨_,rfl,e',A3 E6,cK E6,rfl,he',U6 E6,U5 hz,fun b hb1 hb2=>?_⟩;have tb:Nk E6 b:=⟨hb1,hb2⟩
     refine⟨_,rfl,g,Ab,dx,fs,_,rfl,qT,T.cl_Growth,T.na_Growth_enders,l5,en,cK bs,.inl b,rfl,xg.ens,rfl,_,rfl,?_⟩;cases hlk:lookI bs b with
     | none =>
       refine Da (by rw[Jb,hlk];simp) ?_;exact key _ _ ⟨s',e',ms',E6,o3,o4,o5,rfl,g1,hs',he',ns',ne',lS,kH,k1,k2,hem,fun b' hb'=>by rw[Nk.one hb' tb];exact hlk⟩
     | some en0 =>
       refine Mc (by rw[Jb,hlk];rfl) ?_;obtain⟨i,mi,rfl,hi,ti⟩:=(x.gw.bls b en0).mp hlk;have hil:i<xs.length:=by rw[←x.gw.le];exact(List.getElem?_eq_some_iff.mp hi).1
       obtain⟨VF,XH⟩:=x.gw.eok i mi hi;obtain⟨ds,d,Qq,hdi,hd,nde⟩:=xg.eds.get hi;obtain⟨si,hsi⟩:∃si,ss[i]?=some si:=⟨_,List.getElem?_eq_getElem (by rw[x.gw.ls];exact hil)⟩
       obtain⟨pK,kS⟩:=x.gw.sok i si hsi;obtain⟨cs,c,hsh,ZP,hc,nc⟩:=xg.shs.get hsi;obtain⟨q1,q2,q3⟩:=tb.look kH;obtain⟨r1,r2,r3⟩:=ti.look VF;have WD:Uw (ds.map V.ref) (i:Int)=some (.ref d):=Ft (by rw[List.getElem?_map,hdi];rfl);have TF:Uw (cs.map V.ref) (i:Int)=some (.ref c):=Ft (by rw[List.getElem?_map,ZP];rfl);have VP:∀x∈A3 si,0<=x/\x<=40:=fun x hx=>by have:=kS x hx;omega
       have VQ:∀x∈A3 mi,0<=x/\x<=40:=fun x hx=>by have:=XH x hx;omega
       have ZC:∀x∈A3 ms',0<=x/\x<=40:=fun x hx=>by have:=k1 x hx;omega
       have zC:∀x∈A3 E6,0<=x/\x<=40:=fun x hx=>by have:=k2 x hx;omega
       refine⟨fun σ' H'=>∃(s' e':Addr) (ms' E6:Ms) (o3 o4 o5:Option V),σ'=[some (.ref g),some (.ref s'),some (.ref e'),o3,o4,o5]/\Same H H'/\H' s'=some (.dK (cK ms'))/\H' e'=some (.dK (cK E6))/\¬Z s'/\¬Z e'/\Q9 p ms'/\Q9 p E6/\(∀x∈A3 ms',0<=x/\x<=(xs.length:Int))/\(∀x∈A3 E6,0<=x/\x<(xs.length:Int)/\(xs.getD x.toNat []).length-1+1=l)/\Lz p xs pq ms' E6/\∀x∈A3 E6,x<b,?_,?_⟩
       . rintro σ' G' ⟨s2,e2,ms2,me2,p3,p4,p5,rfl,t1,t2,t3,t4,t5,t6,t7,t8,t9,t10,t11⟩;have b1:=hlt b tb.mem;have b0:=(k2 b tb.mem).1;exact⟨b.toNat,by omega,s2,e2,ms2,me2,p3,p4,p5,rfl,t1,t2,t3,t4,t5,t6,t7,t8,t9,t10,fun x hx=>by have:=t11 x hx;omega⟩
       refine⟨_,rfl,e',A3 E6,cK E6,rfl,he',U6 E6,U5 hz,fun b' zR ZQ=>?_⟩;obtain rfl:b'=b:=Nk.one ⟨zR,ZQ⟩ tb;refine⟨_,rfl,g,Ab,dx,fs,_,rfl,qT,T.cl_Growth,T.na_Growth_enders,l5,_,rfl,en,.int (i:Int),rfl,Va (.inl xg.ens) hlk,?_⟩;refine⟨_,rfl,_,rfl,e',.int (Au E6 b'),rfl,Va (.inl he') q1,_,rfl,?_⟩;refine⟨_,rfl,g,Ab,dx,fs,_,rfl,qT,T.cl_Growth,T.na_Growth_edges,l4,_,rfl,ed,_,_,.ref d,rfl,rfl,.of Qq,WD,_,rfl,d,.int (Au mi b'),rfl,Va (.inl hd) r1,_,rfl,g,Ab,dx,fs,_,rfl,qT,T.cl_Growth,T.na_Growth_prime,l1,Au mi b',p,rfl,x.pr.1,x.pr.2,sI r2 r3,fun f G1 g2 f0 f1 hdv=>?_⟩;refine⟨_,_,rfl,rfl,My (by omega) (by omega),?_⟩;have hn:-(10000:Int) < -(Au E6 b')*f/\-(Au E6 b')*f<=0:=kR q2 q3 f0 f1 Sv;have ss1:=bG (by omega) kH VF tb ti hdv;have ss2:=g9 (p:=p) (n:=-(Au E6 b')*f) (by omega) lS pK;generalize hnn:-(Au E6 b')*f=n at hn ss1 ss2;have hsG:=g2 _ _ hs';have hcG:=g2 _ _ hc;refine⟨_,rfl,_,rfl,_,rfl,g,Ab,dx,fs,_,rfl,g2 _ _ qT,T.cl_Growth,T.na_Growth_sheets,l3,_,rfl,sh,_,_,_,rfl,rfl,.of (g2 _ _ hsh),TF,n,c,si,(by rw[←hnn]<;>rfl),g2 _ _ hc,?_,fun q hq=>My (by omega) (by omega),fun TC1 A35 Ax8 WJ Ab5=>?_⟩
       . have:=E1 pK.nd VP;omega
       have As6:(Bg n si).length<=41:=Nat.le_trans (b7 ..) (E1 pK.nd VP);have At6:ms'.length<=41:=E1 lS.nd ZC;have As8:=Qj (Bg n si) ms';have yV:nd (Bg n si):=P3 pK.nd;obtain⟨YW,_,_,_⟩:=Kn (Bg n si) ms' lS.nd lS.nz yV;refine⟨s',TC1,ms',Bg n si,rfl,.inl (WJ _ _ (g2 _ _ hs')),Ab5,by omega,by omega,fun PC1 A37 Ay6 Aa2 Ab9=>?_⟩;have xW:=(g2.trans WJ).trans Aa2;refine⟨_,rfl,g,Ab,dx,fs,_,rfl,xW _ _ qT,T.cl_Growth,T.na_Growth_prime,l1,PC1,_,p,rfl,Ab9,by omega,YW,by omega,fun C1 GC1 xR zY eC1=>?_⟩;have g3:=xW.trans zY;refine⟨_,rfl,_,rfl,_,rfl,g,Ab,dx,fs,_,rfl,g3 _ _ qT,T.cl_Growth,T.na_Growth_edges,l4,_,rfl,ed,_,_,_,rfl,rfl,.of (g3 _ _ Qq),WD,n,d,mi,(by rw[←hnn]<;>rfl),g3 _ _ hd,?_,fun q hq=>My (by omega) (by omega),fun TC2 A34 Ax7 tN Ab4=>?_⟩
       . have:=E1 VF.nd VQ;omega
       have As5:(Bg n mi).length<=41:=Nat.le_trans (b7 ..) (E1 VF.nd VQ);have At5:E6.length<=41:=E1 kH.nd zC;have As7:=Qj (Bg n mi) E6;have YU:nd (Bg n mi):=P3 VF.nd;obtain⟨yW,_,_,_⟩:=Kn (Bg n mi) E6 kH.nd kH.nz YU;refine⟨e',TC2,E6,Bg n mi,rfl,.inl (tN _ _ (g3 _ _ he')),Ab4,by omega,by omega,fun PC2 A36 Ay5 wK Ab8=>?_⟩;have xV:=(g3.trans tN).trans wK;refine⟨_,rfl,g,Ab,dx,fs,_,rfl,xV _ _ qT,T.cl_Growth,T.na_Growth_prime,l1,PC2,_,p,rfl,Ab8,by omega,yW,by omega,fun C2 GC2 hC2 WI eC2=>?_⟩;have g4:=xV.trans WI;have en1:=xW _ _ xg.ens;have en2:=xV _ _ xg.ens;have XS:=((tN.trans wK).trans WI)
       refine⟨C1,C2,_,_,_,_,_,rfl,g1.trans g4,XS _ _ eC1,eC2,(fun z=>zin _ z ((g1.trans xW).free xR)),(fun z=>zin _ z ((g1.trans xV).free hC2)),ss2.1,ss1.1,fun y hy=>?_,fun y hy=>?_,hem.step hp2 x.gw KG hsi hi lS kH (by have v:=(XH b' ti.mem).2.2;have w:=(k2 b' tb.mem).2.2;omega),fun y hy=>(ss1.2 y hy).1⟩
       . rcases ss2.2 y hy with z | z
         . exact k1 y z
         . have:=kS y z;omega
       . rcases (ss1.2 y hy).2 with z | z
         . exact k2 y z
         . obtain⟨u1,u2,u3⟩:=XH y z;obtain⟨v1,v2,v3⟩:=XH b' ti.mem;obtain⟨w1,w2,w3⟩:=k2 b' tb.mem;exact⟨u1,by omega,by omega⟩
   rintro _ G ⟨s',e',ms',E6,o3,o4,o5,rfl,g1,hs',he',ns',ne',lS,kH,k1,k2,hem,hno⟩;refine⟨_,rfl,_,rfl,Bc (by simp),fun t ht=>?_⟩;have st:Same G (upd G t (.tup [.ref s',.ref e'])):=Same.new ht;exact k t s' e' ms' E6 _ (g1.trans st) Ad (st _ _ hs') (st _ _ he') ns' ne' lS kH k1 k2 hno hem
abbrev C0:Stmt:=Gh (top 34) 5
theorem Ud:FnScope ["self","place"] ["self","place"] (Ai C0):=A7
theorem Ui{f:Addr}{fd:FuncData}(F:Fo K "paper" "Growth.paper" C0 f fd)(T:Ga K mg Al Am Ak Ab)(A4:Has P w K mg base "is_whole_below" ["thing","bound"] 2 (Bv K)):Bj P w K mg base Er 3 f fd ["self","place"] (Nq K Ab):=by
 refine F.ok Ud (fun vs H Q E h=>?_) (fun Cl A outer s H vs Q E hr h=>?_)
 . obtain⟨g,pc,sh,ed,en,p,xs,es,ss,bs,s,i,rfl,x,hs,k⟩:=h;rfl
 . obtain⟨g,pc,sh,ed,en,p,xs,es,ss,bs,s,i,rfl,x,hs,k⟩:=h
   refine⟨_,(Ag (Ba (B3 (B0 (Ao A4 hr (Aa (pv 1) (Aa (Aq (An (K:=K)) T.n_len boot_len (Aa (Bk (K:=K) (pv 0)) Af)) Af))))) (Ah Mo) Az)
    (Ah (At (C7 Pu (by rfl) T.n_dict Fn (Aa (A5 (A2 (K:=K)) (Bk (K:=K) (pv 0)) (pv 1) (fun _ _=>rfl)) Af))))),?_⟩
   obtain⟨dx,fs,hg,l1,l2,l3,l4,l5,lm⟩:=x.ob;obtain⟨us,Zi,r⟩:=x.pcs;have OI:us.length=xs.length:=by have:=r.length;simpa using this
   have hil:i<xs.length:=by rw[←x.gw.ls];exact(List.getElem?_eq_some_iff.mp hs).1
   obtain⟨cs,c,hsh,ZP,hc,nc⟩:=x.shs.get hs
   have hb:Lg (.int (i:Int)) (us.length:Int)=true:=by
    show(decide (0<=(i:Int))&&decide ((i:Int)<(us.length:Int)))=true;rw[decide_eq_true (by omega),decide_eq_true (by omega)];rfl
   refine⟨_,rfl,_,rfl,g,Ab,dx,fs,_,rfl,hg,T.cl_Growth,T.na_Growth_pieces,l2,pc,us,rfl,.inl (.of Zi),.int (i:Int),.int (i:Int),_,rfl,rfl,_,rfl,?_⟩;rw[hb];refine Da (by decide) ?_;have TF:Uw (cs.map V.ref) (i:Int)=some (.ref c):=Ft (by rw[List.getElem?_map,ZP];rfl);exact⟨_,rfl,g,Ab,dx,fs,_,rfl,hg,T.cl_Growth,T.na_Growth_sheets,l3,_,rfl,sh,_,_,_,rfl,rfl,.of hsh,TF,c,cK s,rfl,.inl hc,fun D hD=>k D _ hD (Same.new hD) Ad⟩
abbrev Jn:Stmt:=top 44
theorem Fa:FnScope ["_law_pieces","_law_cell","_law_level_here","_law_faces","_law_j","_law_meet"] ["_law_pieces","_law_cell"] (Ai Jn):=A7
theorem iH{f:Addr}{fd:FuncData}(F:Fo K "_law_next" "_law_next" Jn f fd)(T:Ga K mg Al Am Ak Ab)(aK:Has P w K mg base "_law_side" ["_law_pieces","_law_cell"] 2 (Rm K))(Jy:Has P w K mg base "_law_meets" ["_law_pieces","_law_faces","_law_face"] 1 (No K))(K2:Has P w K mg base "_law_pick" ["_law_cell","_law_j","_law_many"] 1 (Np K))(Ct:Has P w K mg base "_law_level" ["_law_piece"] 1 (B2 K)):Bj P w K mg base Er 3 f fd ["_law_pieces","_law_cell"] (Rn K):=by
 refine F.ok Fa (fun vs H Q E h=>?_) (fun Cl A outer s H vs Q E hr h=>?_)
 . obtain⟨a,xs,c,rfl,hL,hC,QS,k⟩:=h;rfl
 . obtain⟨a,xs,c,rfl,hL,hC,QS,k⟩:=h
   refine⟨_,(Ag (Av (i:=2) Fa.nd (PEw.h (fW (K:=K) (LP (ns:=[0,1,1,2,1,2,3,2]) (by kernel_rfl)) (A6 Bs (pv 1) Aj) (fun _ _=>rfl))))
    (Ag (Av (i:=3) Fa.nd (By Af))
    (Ag (Ba (As Cq (pv 2) Aj (Aw _)) (Ah (At (By Af))) Az)
    (Ag (C5 PassesOwn.never rfl (Ch (by rfl) T.n_range (Aa (A6 F2 (pv 2) Aj) Af)) (Ax (i:=4) Fa.nd) (Ag (U1 (N':=["_law_face","_law_pieces","_law_level_here"]) (cap:=[none,some 0,some 2]) (i:=5) Fa.nd (by rfl) (by first | exact Or.inl rfl | exact Or.inr rfl) (by rfl) (by kernel_rfl) (Ch (by rfl) T.n_range (Aa (Aq (An (K:=K)) T.n_len boot_len (Aa (pv 0) Af)) Af)) (fun _ _ _ _=>(Ax (i:=0) sL)) (fun _ _ _ _=>(Fp (As Cq (A6 F2 (Ao Ct hr (Aa (A5 (A2 (K:=K)) (pv 1) (pv 0) (fun _ _=>rfl)) Af)) Aj) (pv 2) (Aw _)))) (fun _ _ _ _=>(pv 0)))
    (Ag (U1 (N':=["_law_face","_law_pieces","_law_faces"]) (cap:=[none,some 0,some 3]) (i:=5) Fa.nd (by rfl) (by first | exact Or.inl rfl | exact Or.inr rfl) (by rfl) (by kernel_rfl) (Hf (K:=K) (pv 5)) (fun _ _ _ _=>(Ax (i:=0) sM)) (fun _ _ _ _=>(Fp (B0 (Ao Jy hr (Aa (pv 1) (Aa (pv 2) (Aa (pv 0) Af))))))) (fun _ _ _ _=>(pv 0)))
    (Ag (Ba (As Cq (Aq (An (K:=K)) T.n_len boot_len (Aa (pv 5) Af)) Aj (Aw _)) (Ag (Ba (PW.pt (Kl (As To (pv 2) Aj (Aw _)) (Ig (As Cq (pv 4) (pv 2) (Aw _))))) (Ah (At (C7 (Hh (K:=K)) (by rfl) T.n_tuple Ew (Aa (Eb (N':=["_law_face","_law_pieces","_law_j"]) (cap:=[none,some 0,some 4]) (by rfl) (by kernel_rfl) (Ql (K:=K) (pv 3)) (fun _ _ _ _=>(Ax (i:=0) SM)) (fun _ _ _ _=>Ih) (fun _ _ _ _=>(A5 (Be (K:=K)) (A5 (A2 (K:=K)) (pv 1) (pv 0) (fun _ _=>rfl)) (A6 Mr (pv 2) Aj) (fun _ _=>rfl)))) Af)))) Az)
    (Ah (At (Ao aK hr (Aa (pv 0) (Aa (pv 1) Af)))))) Az)
    (Ah (Av (i:=3) Fa.nd (A6 (ML (K:=K)) (pv 3) (By (Aa (A5 (A2 (K:=K)) (pv 5) (Ao K2 hr (Aa (pv 1) (Aa (pv 4) (Aa (Aq (An (K:=K)) T.n_len boot_len (Aa (pv 5) Af)) Af)))) (fun _ _=>rfl)) Af)))))))))
    (Ah (At (pv 3))))))),?_⟩
   obtain⟨us,hq,ul⟩:=LT.len hL;have p8:(0:Int)<8:=by decide
   have c0:=Int.emod_nonneg c (show(8:Int)≠0 by decide);have c1:=Int.emod_lt_of_pos c p8;refine Ar (fun σ' H'=>∃lh:Int,σ'=[some (.ref a),some (.int c),some (.int lh),none,none,none]/\Same H H'/\0<=lh/\lh<=3) ?_ fun key=>?_;rotate_left
   . refine⟨Bc (by simp),fun T1 hT1=>?_⟩
     obtain⟨x,hx,x0,x1⟩:∃x,Uw (([0,1,1,2,1,2,3,2]:List Int).map V.int) (c%8)=some (.int x)/\0<=x/\x<=3:=by
      rcases (show c%8=0\/c%8=1\/c%8=2\/c%8=3\/c%8=4\/c%8=5\/c%8=6\/c%8=7 by omega) with e | e | e | e | e | e | e | e<;>rw[e]<;>exact⟨_,rfl,by decide,by decide⟩
     refine⟨_,rfl,_,_,rfl,rfl,p8,T1,_,_,_,rfl,rfl,.of Ad,hx,?_⟩;exact key _ _ ⟨x,rfl,Same.new hT1,x0,x1⟩
   rintro _ H1 ⟨lh,rfl,s1,l0,l3⟩;refine Ar (fun σ' H'=>∃F0:Addr,σ'=[some (.ref a),some (.int c),some (.int lh),some (.ref F0),none,none]/\Same H H'/\H' F0=some (.tup [])) ?_ fun key=>?_;rotate_left
   . refine⟨Nat.zero_le _,fun F0 zU=>?_⟩;exact key _ _ ⟨F0,rfl,s1.trans (Same.new zU),Ad⟩
   rintro _ H2 ⟨F0,rfl,s2,zU⟩;refine Ar (fun σ' H'=>σ'=[some (.ref a),some (.int c),some (.int lh),some (.ref F0),none,none]/\H2=H'/\¬lh=0) ?_ fun key=>?_;rotate_left
   . refine⟨_,rfl,rfl,_,rfl,?_⟩;refine ite2 (fun _=>?_) (fun h=>key _ _ ⟨rfl,rfl,by simpa using h⟩);refine⟨Nat.zero_le _,fun T1 hT1=>?_⟩;exact k (.ref T1) [] _ (s2.trans (Same.new hT1)) (TI.mk (.of Ad))
   rintro _ _ ⟨rfl,rfl,XM⟩;refine⟨_,rfl,_,_,rfl,rfl,_,rfl,by omega,by omega,?_⟩
   refine Dv (lo:=0) (n:=(lh+1).toNat) (fun j σ G=>∃(v:V) (fs:List Int) (o4 o5:Option V),σ=[some (.ref a),some (.int c),some (.int lh),some v,o4,o5]/\Same H G/\TI K G v fs/\fs.length=j/\(∀x∈fs,0<=x/\x<(xs.length:Int)/\Bq (xs.getD x.toNat []).length+1=lh))
    ⟨.ref F0,[],none,none,rfl,s2,TI.mk (.of zU),rfl,fun x hx=>by cases hx⟩ ?_ ?_
   . rintro j σ G hj ⟨v,fs,o4,o5,rfl,g,tv,hfl,hfs⟩;rw[show(0:Int)+(j:Int)=(j:Int) by omega];have hjl:(j:Int)<=lh:=by omega
     refine Ar (fun σ' H'=>∃(M:Addr) (ms:List Int),σ'=[some (.ref a),some (.int c),some (.int lh),some v,some (.int (j:Int)),some (.ref M)]/\Same G H'/\H' M=some (.lst (ms.map V.int))/\ms.length<=1000/\∀x∈ms,0<=x/\x<(xs.length:Int)/\Bq (xs.getD x.toNat []).length+1=lh) ?_ fun key=>?_;rotate_left
     . refine⟨_,rfl,a,us,rfl,.inl (g.seq hq),_,rfl,by omega,by omega,fun D hD=>?_⟩
       refine Hs (fun i ys τ G1=>Same G G1/\G1 D=some (.lst ys)/\(∃ms:List Int,ys=ms.map V.int/\ms.length<=i/\∀x∈ms,0<=x/\x<(xs.length:Int)/\Bq (xs.getD x.toNat []).length+1=lh)/\∃o,τ=[o,some (.ref a),some (.int lh)])
        ⟨Same.new hD,Ad,⟨[],rfl,Nat.le_refl _,fun x hx=>(by cases hx)⟩,none,rfl⟩ ?_ ?_
       . rintro i ys τ G1 hi ⟨g1,Hy,⟨ms,rfl,hml,hms⟩,o,rfl⟩;rw[show(0:Int)+(i:Int)=(i:Int) by omega];have hi2:i<xs.length:=by omega
         obtain⟨u1,v1,hu1,tX,oG⟩:=LT.get (i:=(i:Int)) (Rep.same (g.trans g1) hL) (by omega) (by omega);refine⟨_,rfl,_,rfl,a,u1,_,v1,rfl,rfl,hu1,tX,v1,Cb _,rfl,.inr oG,_,_,rfl,rfl,_,rfl,rfl,_,rfl,?_⟩;rw[show(Cb (xs.getD ((i:Int)).toNat [])).length=(xs.getD ((i:Int)).toNat []).length from List.length_map ..];refine ite2 (fun h1=>?_) (fun h1=>?_)
         . have e:Bq (xs.getD ((i:Int)).toNat []).length+1=lh:=by
            by_cases z:Bq (xs.getD ((i:Int)).toNat []).length+1=lh
            . exact z
            . exact absurd h1 (noI z)
           refine⟨_,rfl,Hy,Dg (by rw[List.length_map];omega),g1.turn hD,Ad,⟨ms++[(i:Int)],by simp,by simp;omega,fun x hx=>?_⟩,_,rfl⟩;rcases List.mem_append.mp hx with z | z
           . exact hms x z
           . rw[List.mem_singleton]at z;subst z;exact⟨by omega,by omega,e⟩
         . exact⟨g1,Hy,⟨ms,rfl,by omega,hms⟩,_,rfl⟩
       . rintro ys τ G1 ⟨g1,Hy,⟨ms,rfl,hml,hms⟩,_⟩;exact key _ _ ⟨D,ms,rfl,g1,Hy,by omega,hms⟩
     rintro _ G1 ⟨M1,ms1,rfl,g1,XQ,Av7,ZJ⟩;have oG:=TI.same g1 tv;have XS:=g.trans g1;refine Ar (fun σ' H'=>∃(M:Addr) (ms:List Int),σ'=[some (.ref a),some (.int c),some (.int lh),some v,some (.int (j:Int)),some (.ref M)]/\Same G1 H'/\H' M=some (.lst (ms.map V.int))/\ms.length<=1000/\∀x∈ms,0<=x/\x<(xs.length:Int)/\Bq (xs.getD x.toNat []).length+1=lh) ?_ fun key=>?_;rotate_left
     . refine⟨_,rfl,M1,rfl,⟨_,.of XQ⟩,fun D hD=>?_⟩
       refine N8 (K:=K) (a:=M1) (xs:=ms1.map V.int) (fun i ys τ G2=>Same G1 G2/\G2 D=some (.lst ys)/\(∃ms:List Int,ys=ms.map V.int/\ms.length<=i/\∀x∈ms,0<=x/\x<(xs.length:Int)/\Bq (xs.getD x.toNat []).length+1=lh)/\∃o,τ=[o,some (.ref a),some v])
        ⟨Same.new hD,Ad,⟨[],rfl,Nat.le_refl _,fun x hx=>(by cases hx)⟩,none,rfl⟩ (fun i ys τ G2 _ ⟨g2,_⟩=>.of (g2 _ _ XQ)) ?_ ?_
       . rintro i y ys τ G2 hy ⟨g2,Hy,⟨ms,rfl,hml,hms⟩,o,rfl⟩;have hi:i<ms1.length:=by have:=(List.getElem?_eq_some_iff.mp hy).1;simpa using this
         have sW:y=.int ms1[i]:=by
          rw[List.getElem?_map,List.getElem?_eq_getElem hi]at hy;simpa using hy.symm
         subst sW;obtain⟨x0,x1,x2⟩:=ZJ _ (List.getElem_mem hi);generalize ms1[i]=x at x0 x1 x2;refine⟨_,rfl,_,rfl,_,rfl,a,v,xs,fs,x,rfl,Rep.same (XS.trans g2) hL,TI.same g2 oG,x0,x1,fun y hy=>⟨(hfs y hy).1,(hfs y hy).2.1⟩,by omega,(by
         have hcx:=hC.at x0 x1;rw[Cs]at x2;by_cases hz:(xs.getD x.toNat []).length=0
         . exact .inl hz
         . refine .inr ⟨by omega,fun y hy=>?_⟩;obtain⟨y0,y1,y2⟩:=hfs y hy;have hcy:=hC.at y0 y1;rw[Cs]at y2;omega),?_⟩
         refine⟨_,rfl,?_⟩;refine ite2 (fun h1=>?_) (fun h1=>?_)
         . refine⟨_,rfl,Hy,Dg (by rw[List.length_map];omega),g2.turn hD,Ad,⟨ms++[x],by simp,by simp;omega,fun y hy=>?_⟩,_,rfl⟩;rcases List.mem_append.mp hy with z | z
           . exact hms y z
           . rw[List.mem_singleton]at z;subst z;exact⟨x0,x1,x2⟩
         . exact⟨g2,Hy,⟨ms,rfl,by omega,hms⟩,_,rfl⟩
       . rintro ys τ G2 ⟨g2,Hy,⟨ms,rfl,hml,hms⟩,_⟩;rw[List.length_map]at hml;exact key _ _ ⟨D,ms,rfl,g2,Hy,by omega,hms⟩
     rintro _ G2 ⟨M,ms,rfl,g2,hM,hml,hms⟩;have gg:=XS.trans g2;have YG:=TI.same g2 oG;have me:(ms.map V.int).length=ms.length:=List.length_map ..;obtain⟨af,rfl,RM⟩:=TI.sq YG;refine Ar (fun σ' H'=>σ'=[some (.ref a),some (.int c),some (.int lh),some (.ref af),some (.int (j:Int)),some (.ref M)]/\G2=H'/\0<(ms.length:Int)) ?_ fun key=>?_;rotate_left
     . refine⟨_,rfl,M,_,rfl,.inl (.of hM),rfl,_,rfl,?_⟩;rw[me];refine ite2 (fun h1=>?_) (fun h1=>?_);rotate_left
       . have:¬ms.length=0:=fun z=>h1 (by rw[z];rfl);exact key _ _ ⟨rfl,rfl,by omega⟩
       refine⟨_,rfl,_,_,rfl,rfl,_,rfl,?_⟩;refine ite2 (fun h2=>?_) (fun h2=>?_);rotate_left
       . refine Da (by simp) ?_;exact⟨_,rfl,_,rfl,a,xs,c,rfl,Rep.same gg hL,QS,fun w p H' s' tw=>k w p H' (gg.trans s') tw⟩
       refine⟨_,rfl,_,rfl,rfl,_,rfl,?_⟩;refine ite2 (fun h3=>?_) (fun h3=>?_);rotate_left
       . exact⟨_,rfl,_,rfl,a,xs,c,rfl,Rep.same gg hL,QS,fun w p H' s' tw=>k w p H' (gg.trans s') tw⟩
       have hlh:1<lh:=by simpa using h2
       have hje:(j:Int)=lh:=by simpa using h3
       refine⟨_,rfl,af,rfl,⟨_,RM⟩,fun D hD=>?_⟩
       refine g7 (K:=K) (a:=af) (xs:=fs.map V.int) (fun i ys τ G3=>Same G2 G3/\G3 D=some (.lst ys)/\(∃ps:List Int,ys=ps.map V.int/\ps.length<=i)/\∃o,τ=[o,some (.ref a),some (.int (j:Int))])
        ⟨Same.new hD,Ad,⟨[],rfl,Nat.le_refl _⟩,none,rfl⟩ (fun i ys τ G3 _ ⟨g3,_⟩=>g3.seqT RM) ?_ ?_
       . rintro i y ys τ G3 hy ⟨g3,Hy,⟨ps,rfl,hpl⟩,o,rfl⟩;have hi:i<fs.length:=by have:=(List.getElem?_eq_some_iff.mp hy).1;simpa using this
         have sW:y=.int fs[i]:=by
          rw[List.getElem?_map,List.getElem?_eq_getElem hi]at hy;simpa using hy.symm
         subst sW;obtain⟨x0,x1,x2⟩:=hfs _ (List.getElem_mem hi);generalize fs[i]=x at x0 x1 x2;have hcx:=hC.at x0 x1;rw[Cs]at x2;obtain⟨u1,v1,hu1,tX,yH⟩:=LT.get (Rep.same (gg.trans g3) hL) x0 x1;obtain⟨b1,rfl,hb1⟩:=yH.sq;refine⟨_,rfl,_,rfl,a,u1,_,_,rfl,rfl,hu1,tX,_,rfl,_,_,rfl,rfl,b1,_,_,_,rfl,rfl,hb1,Ni (by omega) (by omega),Hy,Dg (by rw[List.length_map];omega),g3.turn hD,Ad,⟨ps++[_],by rw[List.map_append];rfl,by simp;omega⟩,_,rfl⟩
       . rintro ys τ G3 ⟨g3,Hy,⟨ps,rfl,hpl⟩,_⟩;refine⟨D,_,rfl,.inl ⟨.of Hy,fun T1 hT1=>?_⟩⟩;exact k (.ref T1) ps _ ((gg.trans g3).trans (Same.new hT1)) (TI.mk (.of Ad))
     rintro _ _ ⟨rfl,rfl,hpos⟩;refine⟨_,rfl,_,rfl,_,rfl,_,rfl,_,rfl,M,_,rfl,.inl (.of hM),_,_,_,rfl,by rw[me];exact hpos,fun r G4 g4 r0 r1=>?_⟩;rw[me]at r1;have hmm:ms.getD r.toNat 0∈ms:=D4 (by omega);have hmr:=hms _ hmm;refine⟨M,_,_,_,rfl,rfl,.of (g4 _ _ hM),Ni r0 r1,Bc (by simp),fun pt hpt=>?_⟩;generalize ms.getD r.toNat 0=q at hmr;have s3:Same G4 (upd G4 pt (.tup [.int q])):=Same.new hpt;refine⟨af,pt,_,_,rfl,rfl,(g4.trans s3).seqT RM,.of Ad,Bc (by simp;omega),fun p3 H3 s4 q3=>?_⟩;refine⟨.ref p3,fs++[q],_,_,rfl,((gg.trans g4).trans s3).trans s4,TI.mk ?_,by simp[hfl],fun x hx=>?_⟩
     . rw[List.map_append];exact q3
     . rcases List.mem_append.mp hx with z | z
       . exact hfs x z
       . rw[List.mem_singleton]at z;subst z;exact hmr
   . rintro σ G ⟨v,fs,o4,o5,rfl,g,tv,hfl,hfs⟩;exact⟨_,rfl,k v fs G g tv⟩
abbrev R4:Stmt:=top 7
theorem fS:FnScope ["shape","thing","level"] ["shape","thing"] (Ai R4):=A7
theorem pJ{f:Addr}{fd:FuncData}(F:Fo K "fits" "fits" R4 f fd)(T:Ga K mg Al Am Ak Ab)(Dt:Has P w K mg base "level_of" ["piece"] 1 (B2 K))(K0:Has P w K mg base "faces_agree" ["shape","faces"] 1 (Gz K))(Eo:Has P w K mg base "is_place_of_level" ["shape","thing","level"] 3 (Dz K)):Bj P w K mg base Er 4 f fd ["shape","thing"] (Vh K):=by
 refine F.ok fS (fun vs H Q E h=>?_) (fun Cl A outer s H vs Q E hr h=>?_)
 . obtain⟨a,th,e,xs,rfl,hL,hd,k⟩:=h;rfl
 . obtain⟨a,th,e,xs,rfl,hL,hd,k⟩:=h;obtain⟨a9,Z2,Yg⟩:=T.x_FACE_COUNTS;have Lu:=hr.u8
   refine⟨_,(Ag (Ba (PW.pt (Ha (B3 (B0 (Aq (j7 (K:=K)) T.n_isinstance Bo (Aa (pv 1) (Aa (Ge (v:=.ty "tuple") rfl T.n_tuple Ew rfl) Af))))) (G9 (As (Pf (K:=K) Lu) (Aq (An (K:=K)) T.n_len boot_len (Aa (pv 1) Af)) (Qc (v:=.ref a9) (by rfl) Z2 rfl) rfl)))) (Ah (At Cc)) Az)
    (Ag (Av (i:=2) fS.nd (Ao Dt hr (Aa (pv 1) Af)))
    (Ag (Ba (B3 (B0 (Aq (Wr (K:=K) (by rfl)) T.n_all j8 (Aa (Eb (N':=["face","shape","level"]) (cap:=[none,some 0,some 2]) (by rfl) (by kernel_rfl) (Ql (K:=K) (pv 1)) (fun _ _ _ _=>(Ax (i:=0) vM)) (fun _ _ _ _=>Ih) (fun _ _ _ _=>(Ao Eo hr (Aa (pv 1) (Aa (pv 0) (Aa (A6 Mr (pv 2) Aj) Af)))))) Af)))) (Ah (At Cc)) Az)
    (Ah (At (qN (Ec Ij (pv 2) Aj (Aw _)) (Hc (Ao K0 hr (Aa (pv 0) (Aa (pv 1) Af)))))))))),?_⟩
   refine⟨_,rfl,th,"tuple",.one e,rfl,.inr (.inr (.inr (.inl rfl))),hd,_,rfl,?_⟩;cases e with
   | nul=>exact k H (Same.refl H)
   | d d =>
     have hd:Rep K H th d:=hd;have k:∀H',Same H H'->Q (.bl (Cj xs d)) H':=k;cases d with
     | non=>exact k H (Same.refl H)
     | bl b=>exact k H (Same.refl H)
     | int i=>exact k H (Same.refl H)
     | str z=>exact k H (Same.refl H)
     | lst es=>exact k H (Same.refl H)
     | tup ds =>
       obtain⟨pa,us,rfl,hq,r⟩:=id hd;have ul:us.length=ds.length:=r.length;refine Da (by simp[zD,ZD,U7]) ?_;refine⟨_,rfl,pa,us,rfl,.inr hq,.int (us.length:Int),Cb [0,2,3,4],rfl,.inr ⟨_,_,rfl,Yg H,Gx.mpr rfl⟩,(by rw[N5];decide),_,rfl,?_⟩;rw[ul]
       have cnt:(!(Cb [0,2,3,4]).any fun e=>eqD e (.int (ds.length:Int)))=!Ol ds.length:=by
        have:(Cb [0,2,3,4]).any (fun e=>eqD e (.int (ds.length:Int)))=Ol ds.length:=by
         simp only[Cb,List.map_cons,List.map_nil,List.any_cons,List.any_nil,eqD,Ol];rw[Bool.eq_iff_iff];simp only[Bool.or_eq_true,beq_iff_eq,Bool.or_false];omega
        rw[this]
       by_cases hc:Ol ds.length=true;rotate_left
       . have hc':Ol ds.length=false:=by simpa using hc
         refine Mc (by rw[if_pos rfl,cnt,hc'];rfl) ?_;have e2:Cj xs (.tup ds)=false:=by rw[Cp];simp[hc']
         rw[e2]at k;exact k H (Same.refl H)
       refine Da (by rw[if_pos rfl,cnt,hc];simp) ?_;have hn4:ds.length<=4:=(aX hc).1;refine⟨_,rfl,_,ds,rfl,.inr hd,?_⟩;refine⟨_,rfl,pa,rfl,⟨_,hq⟩,fun D hD=>?_⟩
       refine g7 (K:=K) (a:=pa) (xs:=us) (fun i ys τ H1=>Same H H1/\H1 D=some (.lst ys)/\ys=((ds.take i).map fun e=>V.bl (Bh xs e (Bq ds.length-1)))/\∃o,τ=[o,some (.ref a),some (.int (Bq ds.length))])
        ⟨Same.new hD,Ad,rfl,none,rfl⟩ (fun i ys τ H1 _ ⟨s1,_⟩=>s1.seqT hq) ?_ ?_
       . rintro i x ys τ H1 hx ⟨s1,L9,hys,o,rfl⟩;have hi:i<us.length:=(List.getElem?_eq_some_iff.mp hx).1;obtain⟨e,he,re⟩:=r.getV hx;refine⟨_,rfl,_,rfl,_,rfl,_,_,rfl,rfl,a,x,e,_,xs,rfl,Rep.same s1 hL,Rep.same s1 re,?_⟩;refine⟨L9,Dg (by rw[hys,List.length_map,List.length_take];omega),s1.turn hD,Ad,?_,_,rfl⟩;rw[List.take_succ,he,List.map_append,hys];rfl
       . rintro ys τ H1 ⟨s1,L9,hys,_⟩;rw[ul,List.take_length]at hys;have ZF:ys=(ds.map fun e=>Bh xs e (Bq ds.length-1)).map V.bl:=by rw[hys,List.map_map];rfl
         rw[ZF]at L9;refine⟨D,_,rfl,.of L9,_,rfl,?_⟩;have wN:(ds.map fun e=>Bh xs e (Bq ds.length-1)).all id=ds.all fun e=>Bh xs e (Bq ds.length-1):=by rw[List.all_map];rfl
         by_cases ha:(ds.all fun e=>Bh xs e (Bq ds.length-1))=true;rotate_left
         . have ha':(ds.all fun e=>Bh xs e (Bq ds.length-1))=false:=by simpa using ha
           refine Mc (by rw[wN,ha'];rfl) ?_;have e2:Cj xs (.tup ds)=false:=by rw[Cp];rw[ha',hc];rfl
           rw[e2]at k;exact k H1 s1
         refine Da (by rw[wN,ha];simp) ?_;have e2:Cj xs (.tup ds)=(decide (Bq ds.length<2) || E3 xs (ds.map kF)):=by rw[Cp];rw[ha,hc];rfl
         rw[e2]at k;refine⟨_,rfl,_,_,rfl,rfl,_,rfl,?_⟩;refine ite2 (fun h1=>?_) (fun h1=>?_)
         . have h2:(decide (Bq ds.length<2))=true:=h1;rw[h2]at k;exact k H1 s1
         . have h2:(decide (Bq ds.length<2))=false:=by simpa using h1
           rw[h2]at k;have hint:=Qy ha
           have tv:TI K H1 (.ref pa) (ds.map kF):=by
            have:=Rep.same s1 hd;rw[hint]at this;exact this
           refine⟨_,rfl,_,rfl,a,_,xs,ds.map kF,rfl,Rep.same s1 hL,tv,by simpa using hn4,?_,k H1 s1⟩;intro f hf;rw[List.all_eq_true]at ha
           have hm:L2.D.int f∈ds:=by
            rw[hint];exact List.mem_map.mpr ⟨f,hf,rfl⟩
           have:=ha _ hm;simp only[Bh,Bool.and_eq_true,decide_eq_true_eq]at this;obtain⟨⟨f0,f1⟩,f2⟩:=this;refine⟨f0,f1,?_⟩;rw[List.length_map];rw[Cs,Cs]at f2;have h3:¬Bq ds.length<2:=by simpa using h2
           rw[Cs]at h3;omega
abbrev Co:Stmt:=Gh (top 34) 0
theorem R1:FnScope ["self","prime"] ["self","prime"] (Ai Co):=A7
theorem Jv{f:Addr}{fd:FuncData}{cG:List Value}(F:CV K "__init__" "Growth.__init__" Co f fd cG)(T:Ga K mg Al Am Ak Ab)(N1:Has P w K mg base "is_prime" ["thing"] 3 (Rj K)):Bj P w K mg base Er 4 f fd ["self","prime"] (Ml K Ab):=by
 refine F.ok R1 (fun vs H Q E h=>?_) (fun Cl A outer s H vs Q E hr h=>?_)
 . obtain⟨g,dx,p,rfl,hg,hP,UJ,k⟩:=h;rfl
 . obtain⟨g,dx,p,rfl,hg,hP,UJ,k⟩:=h
   refine⟨_,(Ag (Ba (B3 (B0 (Ao N1 hr (Aa (pv 1) Af)))) (Ah Mo) Az)
    (Ag (Qk (K:=K) (pv 0) (pv 1))
    (Ag (Qk (K:=K) (pv 0) (Eg Af))
    (Ag (Qk (K:=K) (pv 0) (Eg Af))
    (Ag (Qk (K:=K) (pv 0) (Eg Af))
    (Ah (Qk (K:=K) (pv 0) Mq))))))),?_⟩
   refine⟨_,rfl,p,rfl,hP,UJ,fun H0 s0=>⟨_,rfl,?_⟩⟩;refine Da (by decide) ?_;refine⟨_,rfl,_,rfl,g,Ab,dx,[],rfl,s0 _ _ hg,T.cl_Growth,T.na_Growth_prime,by decide,?_⟩;have sx0:SameX g H (upd H0 g (.ins Ab dx (putF "prime" (.int p) []))):=SameX.upd (SameX.of s0);have xZ:upd H0 g (.ins Ab dx (putF "prime" (.int p) [])) g=some (.ins Ab dx (putF "prime" (.int p) [])):=Ad;generalize upd H0 g (.ins Ab dx (putF "prime" (.int p) []))=H1 at sx0 xZ;refine⟨Bc (by simp),fun pc Zi=>?_⟩;have xE:pc≠g:=fun z=>by rw[z,xZ]at Zi;cases Zi
   obtain⟨XC,tP,gJ,pe0,fpc,_⟩:=init_step (o:=.lst []) (putF "pieces" (.ref pc) (putF "prime" (.int p) [])) sx0 xZ Zi;refine⟨_,rfl,g,Ab,dx,_,rfl,(by rw[Ae xE.symm];exact xZ),T.cl_Growth,T.na_Growth_pieces,Nat.lt_of_le_of_lt (Y9 (Nat.le_refl 0)) (by decide),?_⟩;generalize upd (upd H1 pc (.lst [])) g (.ins Ab dx (putF "pieces" (.ref pc) (putF "prime" (.int p) [])))=H2 at XC tP gJ;refine⟨Bc (by simp),fun sh hsh=>?_⟩;have nsh:sh≠g:=fun z=>by rw[z,tP]at hsh;cases hsh
   obtain⟨sx2,XY,oJ,pe1,fsh,_⟩:=init_step (o:=.lst []) (putF "sheets" (.ref sh) (putF "pieces" (.ref pc) (putF "prime" (.int p) []))) XC tP hsh;refine⟨_,rfl,g,Ab,dx,_,rfl,(by rw[Ae nsh.symm];exact tP),T.cl_Growth,T.na_Growth_sheets,Nat.lt_of_le_of_lt (Y9 (Y9 (Nat.le_refl 0))) (by decide),?_⟩;have WQ:pc≠sh:=fun z=>by rw[←z,gJ]at hsh;cases hsh
   replace gJ:=pe1 _ _ xE gJ
   generalize upd (upd H2 sh (.lst [])) g (.ins Ab dx (putF "sheets" (.ref sh) (putF "pieces" (.ref pc) (putF "prime" (.int p) []))))=H3 at sx2 XY oJ gJ;refine⟨Bc (by simp),fun ed Qq=>?_⟩;have MD:ed≠g:=fun z=>by rw[z,XY]at Qq;cases Qq
   obtain⟨sx3,xY,UK,pe2,fed,_⟩:=init_step (o:=.lst []) (putF "edges" (.ref ed) (putF "sheets" (.ref sh) (putF "pieces" (.ref pc) (putF "prime" (.int p) [])))) sx2 XY Qq;refine⟨_,rfl,g,Ab,dx,_,rfl,(by rw[Ae MD.symm];exact XY),T.cl_Growth,T.na_Growth_edges,Nat.lt_of_le_of_lt (Y9 (Y9 (Y9 (Nat.le_refl 0)))) (by decide),?_⟩;have wR:pc≠ed:=fun z=>by rw[←z,gJ]at Qq;cases Qq
   have wQ:sh≠ed:=fun z=>by rw[←z,oJ]at Qq;cases Qq
   replace gJ:=pe2 _ _ xE gJ
   replace oJ:=pe2 _ _ nsh oJ
   generalize upd (upd H3 ed (.lst [])) g (.ins Ab dx (putF "edges" (.ref ed) (putF "sheets" (.ref sh) (putF "pieces" (.ref pc) (putF "prime" (.int p) [])))))=H4 at sx3 xY UK gJ oJ;refine fun en hen=>?_;have SH:en≠g:=fun z=>by rw[z,xY]at hen;cases hen
   obtain⟨sx4,eg4,een,yS,fen,_⟩:=init_step (o:=.dK []) (putF "enders" (.ref en) (putF "edges" (.ref ed) (putF "sheets" (.ref sh) (putF "pieces" (.ref pc) (putF "prime" (.int p) []))))) sx3 xY hen;refine⟨_,rfl,g,Ab,dx,_,rfl,(by rw[Ae SH.symm];exact xY),T.cl_Growth,T.na_Growth_enders,Nat.lt_of_le_of_lt (Y9 (Y9 (Y9 (Y9 (Nat.le_refl 0))))) (by decide),?_⟩;have Am3:pc≠en:=fun z=>by rw[←z,gJ]at hen;cases hen
   have Am2:sh≠en:=fun z=>by rw[←z,oJ]at hen;cases hen
   have Am5:ed≠en:=fun z=>by rw[←z,UK]at hen;cases hen
   replace gJ:=yS _ _ xE gJ
   replace oJ:=yS _ _ nsh oJ
   replace UK:=yS _ _ MD UK
   generalize upd (upd H4 en (.dK [])) g (.ins Ab dx (putF "enders" (.ref en) (putF "edges" (.ref ed) (putF "sheets" (.ref sh) (putF "pieces" (.ref pc) (putF "prime" (.int p) []))))))=H5 at sx4 eg4 een gJ oJ UK;refine k pc sh ed en H5 fpc fsh fed fen sx4 ⟨⟨dx,_,eg4,by refine⟨?_,?_,?_,?_,?_,?_,?_,?_,?_,?_,?_,?_⟩<;>((repeat (first | rw[Im,if_pos rfl] | rw[Im,if_neg (by decide +kernel)]))<;>first | rfl | assumption)⟩,⟨[],gJ,rfl⟩,⟨[],UK,rfl,fun i d m e=>by simp at e⟩,⟨[],oJ,rfl,fun i d m e=>by simp at e⟩,een,⟨WQ,wR,wQ⟩,E4.nil p,hP,UJ⟩
abbrev C4:Stmt:=Gh (top 34) 7
theorem Ej:FnScope ["self","k","stage","many","now","holes"] ["self","k","stage"] (Ai C4):=A7
theorem Lp{f:Addr}{fd:FuncData}{cG:List Value}(F:CV K "alive" "Growth.alive" C4 f fd cG)(T:Ga K mg Al Am Ak Ab)(Gi:Has P w K mg base "check_level" ["k","bound"] 3 (Ri K))(A4:Has P w K mg base "is_whole_below" ["thing","bound"] 2 (Bv K))(B5:J9 P w K mg base Ab "pairs" ["self"] 1 (Nr K Ab))(Dt:Has P w K mg base "level_of" ["piece"] 1 (B2 K))(N2:Has P w K mg base "is_alive" ["pair","stage"] 1 (Rl K)):Bj P w K mg base Er 4 f fd ["self","k","stage"] (Ji K Ab):=by
 refine F.ok Ej (fun vs H Q E h=>?_) (fun Cl A outer s H vs Q E hr h=>?_)
 . obtain⟨g,pc,sh,ed,en,OL,kk,st,p,xs,es,ss,bs,rfl,x,k0,k4,sX,k⟩:=h;rfl
 . obtain⟨g,pc,sh,ed,en,OL,kk,st,p,xs,es,ss,bs,rfl,x,k0,k4,sX,k⟩:=h;obtain⟨BC,nX⟩:=T.x_LEVELS
   refine⟨_,(Ag (Ck (Ao Gi hr (Aa (pv 1) (Aa (Qc (v:=.int 4) (by rfl) nX ⟨_,rfl⟩) Af))))
    (Ag (Av (i:=3) Ej.nd (Aq (An (K:=K)) T.n_len boot_len (Aa (Bk (K:=K) (pv 0)) Af)))
    (Ag (Ba (PW.pt (Kl (As fY (pv 2) Cu (Aw _)) (Ig (B3 (B0 (Ao A4 hr (Aa (pv 2) (Aa (A6 F2 (pv 3) Aj) Af)))))))) (Ah Mo) Az)
    (Ag (Av (i:=4) Ej.nd (bO (As Pc (pv 2) Cu (Aw _)) (pv 3) (pv 2)))
    (Ag (U1 (N':=["pair","self","k"]) (cap:=[none,some 0,some 1]) (i:=5) Ej.nd (by rfl) (by first | exact Or.inl rfl | exact Or.inr rfl) (by rfl) (by kernel_rfl) (Hf (K:=K) (Jt (pv 0) T.cl_Growth B5 hr)) (fun _ _ _ _=>(Ax (i:=0) vK)) (fun _ _ _ _=>(Fp (As Cq (Ao Dt hr (Aa (A5 (A2 (K:=K)) (Bk (K:=K) (pv 1)) (A5 (Be (K:=K)) (pv 0) Aj (fun _ _=>rfl)) (fun _ _=>rfl)) Af)) (pv 2) (Aw _)))) (fun _ _ _ _=>(pv 0)))
    (Ah (At (Aq (An (K:=K)) T.n_len boot_len (Aa (Eb (N':=["pair","now"]) (cap:=[none,some 4]) (by rfl) (by kernel_rfl) (Hf (K:=K) (pv 5)) (fun _ _ _ _=>(Ax (i:=0) vL)) (fun _ _ _ _=>(Fp (B0 (Ao N2 hr (Aa (pv 0) (Aa (pv 1) Af)))))) (fun _ _ _ _=>(pv 0))) Af))))))))),?_⟩
   obtain⟨dx,fs,hg,l1,l2,l3,l4,l5,lm⟩:=x.ob;obtain⟨us,Zi,r⟩:=x.pcs;have OI:us.length=xs.length:=by have:=r.length;simpa using this
   have n40:=x.gw.n40;have hel:=x.gw.le;refine⟨_,rfl,kk,4,rfl,k0,k4,?_⟩;refine⟨_,rfl,g,Ab,dx,fs,_,rfl,hg,T.cl_Growth,T.na_Growth_pieces,l2,pc,us,rfl,.inl (.of Zi),?_⟩;rw[OI];refine Cm (fun σ' H'=>σ'=[some (.ref g),some (.int kk),some OL,some (.int (xs.length:Int)),none,none]/\H=H') ?_ fun Hg=>Hg _ _ ⟨rfl,rfl⟩;rintro _ _ ⟨rfl,rfl⟩;refine Ar (t:=T8 _ _ _) (fun σ' H'=>σ'=[some (.ref g),some (.int kk),some OL,some (.int (xs.length:Int)),none,none]/\H=H') ?_ fun key=>?_;rotate_left
   . refine⟨_,rfl,rfl,_,rfl,?_⟩;rcases sX with⟨hn,_⟩|⟨hn,t0,t1⟩
     . refine Da (by simp[hn]) ?_;refine Da (by decide) ?_;exact key _ _ ⟨rfl,rfl⟩
     . refine Mc (by simp[hn]) ?_;subst hn
       have hb:Lg (.int st) ((xs.length:Int)+1)=true:=by
        show(decide (0<=st)&&decide (st<(xs.length:Int)+1))=true;rw[decide_eq_true t0,decide_eq_true (by omega)];rfl
       refine⟨_,rfl,_,rfl,_,_,rfl,rfl,.int st,.int st,_,rfl,rfl,_,rfl,?_⟩;rw[hb];refine Da (by decide) ?_;exact key _ _ ⟨rfl,rfl⟩
   rintro _ _ ⟨rfl,rfl⟩;refine Ar (fun σ' H'=>σ'=[some (.ref g),some (.int kk),some OL,some (.int (xs.length:Int)),some (.int st),none]/\H=H') ?_ fun key=>?_;rotate_left
   . refine⟨_,rfl,rfl,_,rfl,?_⟩;rcases sX with⟨hn,rfl⟩|⟨hn,t0,t1⟩
     . refine Mc (by simp[hn]) ?_;exact⟨_,rfl,key _ _ ⟨rfl,rfl⟩⟩
     . refine Da (by simp[hn]) ?_;subst hn;exact⟨_,rfl,key _ _ ⟨rfl,rfl⟩⟩
   rintro _ _ ⟨rfl,rfl⟩;have fin:=k;refine Ar (fun σ' H'=>∃(D:Addr) (ys:List V),σ'=[some (.ref g),some (.int kk),some OL,some (.int (xs.length:Int)),some (.int st),some (.ref D)]/\Same H H'/\H' D=some (.lst ys)/\Reps K H' ys (((Bf es es.length).filter (Iy xs kk)).map (B7 bs))) ?_ fun key=>?_;rotate_left
   . refine⟨_,rfl,g,dx,fs,rfl,hg,lm.2.2.2.2.2.1,g,pc,sh,ed,en,p,xs,es,ss,bs,rfl,x,fun l ws H1 nl s1 el rl=>⟨l,rfl,⟨_,.of el⟩,fun D hD=>?_⟩⟩;have x1:=x.same s1;have wl:ws.length=(Bf es es.length).length:=by have:=rl.length;rw[this];exact List.length_map ..
     have bl:=J8 es es.length
     refine N8 (K:=K) (a:=l) (xs:=ws) (fun i ys τ G=>Same H1 G/\G D=some (.lst ys)/\Reps K G ys ((((Bf es es.length).take i).filter (Iy xs kk)).map (B7 bs))/\∃o,τ=[o,some (.ref g),some (.int kk)])
      ⟨Same.new hD,Ad,rfl,none,rfl⟩ (fun i ys τ G _ ⟨h1,_⟩=>.of (h1 _ _ el)) ?_ ?_
     . rintro i v ys τ G hv ⟨h1,Hy,ry,o,rfl⟩;have hi:i<(Bf es es.length).length:=by rw[←wl];exact(List.getElem?_eq_some_iff.mp hv).1
       obtain⟨j,hj⟩:∃j,(Bf es es.length)[i]?=some j:=⟨_,List.getElem?_eq_getElem hi⟩
       obtain⟨hjl,_⟩:=J7.mp (List.mem_of_getElem? hj);obtain⟨d,hd,rv⟩:=rl.getV hv
       obtain rfl:d=B7 bs j:=by
        rw[show De es bs=(Bf es es.length).map (B7 bs) from rfl,List.getElem?_map,hj]at hd;exact(Option.some.inj hd).symm
       have rv1:=Rep.same h1 rv;obtain⟨t,rfl,UW⟩:=Vv rv1;have wF:LT K G (.ref pc) xs:=⟨pc,us,rfl,.of (h1 _ _ (s1 _ _ Zi)),Reps.same (s1.trans h1) r⟩
       obtain⟨us',v',pU,hat,tv⟩:=LT.get wF (show(0:Int)<=(j:Int) by omega) (show(j:Int)<(xs.length:Int) by omega);rw[Int.toNat_natCast]at tv
       have yl:ys.length<=40:=by
        have h2:=ry.length;rw[List.length_map]at h2;have h3:=List.length_filter_le (Iy xs kk) ((Bf es es.length).take i);rw[List.length_take]at h3;omega
       refine⟨_,rfl,g,Ab,dx,fs,_,rfl,h1 _ _ (s1 _ _ hg),T.cl_Growth,T.na_Growth_pieces,l2,_,rfl,t,_,_,_,rfl,rfl,UW,TX _ _,pc,us',_,_,rfl,rfl,pU,hat,v',Cb (xs.getD j []),rfl,.inr tv,_,rfl,rfl,_,rfl,?_⟩;rw[show(Cb (xs.getD j [])).length=(xs.getD j []).length from List.length_map ..];have qW:(Bf es es.length).take (i+1)=(Bf es es.length).take i++[j]:=by rw[List.take_succ,hj];rfl
       refine ite2 (fun h2=>?_) (fun h2=>?_)
       . have zQ:Iy xs kk j=true:=by
          unfold Iy;have:Bq (xs.getD j []).length=kk:=by simpa using h2
          exact decide_eq_true this
         refine⟨_,rfl,Hy,Dg (by omega),h1.turn hD,Ad,?_,_,rfl⟩;rw[qW,List.filter_append,List.filter_cons_of_pos zQ,List.map_append];refine Reps.t (E8.lst Hy) ?_ (Reps.append ry ⟨_,_,rfl,rv1,rfl⟩);have:=Hd bs (((Bf es es.length).take i).filter (Iy xs kk)++[j]);rw[List.map_append]at this;exact this
       . have zQ:¬Iy xs kk j=true:=by
          unfold Iy;intro z;apply h2;have:Bq (xs.getD j []).length=kk:=by simpa using z
          rw[this];simp
         refine⟨h1,Hy,?_,_,rfl⟩;rw[qW,List.filter_append,List.filter_cons_of_neg zQ,List.filter_nil,List.append_nil];exact ry
     . rintro ys τ G ⟨h1,Hy,ry,_⟩;rw[wl,List.take_length]at ry;exact key _ _ ⟨D,ys,rfl,s1.trans h1,Hy,ry⟩
   rintro _ H1 ⟨D,ys,rfl,s1,L9,ry⟩;obtain⟨L,hL⟩:∃L,L=(Bf es es.length).filter (Iy xs kk):=⟨_,rfl⟩
   rw[←hL]at ry;have yl:ys.length=L.length:=by have:=ry.length;rw[List.length_map]at this;exact this
   have Ll:L.length<=40:=by
    have h3:=List.length_filter_le (Iy xs kk) (Bf es es.length);have:=J8 es es.length;rw[hL];omega
   refine⟨_,rfl,D,rfl,⟨_,.of L9⟩,fun D2 wH=>?_⟩
   refine N8 (K:=K) (a:=D) (xs:=ys) (fun i zs τ G=>Same H1 G/\G D2=some (.lst zs)/\zs.length=((L.take i).filter (aliveB bs st)).length/\∃o,τ=[o,some (.int st)])
    ⟨Same.new wH,Ad,rfl,none,rfl⟩ (fun i zs τ G _ ⟨h1,_⟩=>.of (h1 _ _ L9)) ?_ ?_
   . rintro i v zs τ G hv ⟨h1,Hy,vV,o,rfl⟩;have hi:i<L.length:=by rw[←yl];exact(List.getElem?_eq_some_iff.mp hv).1
     have hj:L[i]?=some L[i]:=List.getElem?_eq_getElem hi;obtain⟨d,hd,rv⟩:=ry.getV hv
     obtain rfl:d=B7 bs L[i]:=by
      rw[List.getElem?_map,hj]at hd;exact(Option.some.inj hd).symm
     obtain⟨t,rfl,UW⟩:=Vv (Rep.same h1 rv);have qW:L.take (i+1)=L.take i++[L[i]]:=by rw[List.take_succ,hj];rfl
     have zl:zs.length<=40:=by
      have h3:=List.length_filter_le (aliveB bs st) (L.take i);rw[List.length_take]at h3;omega
     refine⟨_,rfl,_,rfl,t,bs,L[i],st,rfl,UW,_,rfl,?_⟩;refine ite2 (fun h2=>?_) (fun h2=>?_)
     . refine⟨_,rfl,Hy,Dg (by omega),h1.turn wH,Ad,?_,_,rfl⟩;rw[qW,List.filter_append,List.filter_cons_of_pos h2,List.length_append,List.length_append,vV];rfl
     . refine⟨h1,Hy,?_,_,rfl⟩;rw[qW,List.filter_append,List.filter_cons_of_neg h2,List.filter_nil,List.append_nil];exact vV
   . rintro zs τ G ⟨h1,Hy,vV,_⟩;rw[yl,List.take_length]at vV;refine⟨D2,zs,rfl,.inl (.of Hy),?_⟩
     have e:zs.length=Pz xs es bs kk st:=by
      unfold Pz;rw[vV,hL,List.filter_filter]
      congr 1
      exact List.filter_congr fun j _=>Bool.and_comm ..
     rw[e];exact fin G (s1.trans h1)
abbrev Dm:Stmt:=top 48
theorem Cy:FnScope ["_law_growth","_law_pieces","_law_prime_here","_law_ends","_law_births","_law_place","_law_paper","_law_low"] ["_law_growth","_law_pieces","_law_prime_here"] (Ai Dm):=A7
theorem V5{f:Addr}{fd:FuncData}(F:Fo K "_law_pairs_due" "_law_pairs_due" Dm f fd)(T:Ga K mg Al Am Ak Ab)(C8:J9 P w K mg base Ab "paper" ["self","place"] 3 (Nq K Ab))(M6:Has P w K mg base "_law_is_paper" ["_law_pieces","_law_paper","_law_place","_law_prime_here"] 2 (Mh K))(AL:Has P w K mg base "_law_edge" ["_law_pieces","_law_paper","_law_prime_here"] 1 (Vi K)):Bj P w K mg base Er 4 f fd ["_law_growth","_law_pieces","_law_prime_here"] (Uz K Ab):=by
 refine F.ok Cy (fun vs H Q E h=>?_) (fun Cl A outer s H vs Q E hr h=>?_)
 . obtain⟨g,pc,sh,ed,en,a,p,xs,es,ss,bs,rfl,x,KG,hL,k⟩:=h;rfl
 . obtain⟨g,pc,sh,ed,en,a,p,xs,es,ss,bs,rfl,x,KG,hL,k⟩:=h;have Lu:=hr.u8
   refine⟨_,(Ag (Av (i:=3) Cy.nd Mq)
    (Ag (Av (i:=4) Cy.nd (Eg Af))
    (Ag (C5 PassesOwn.never rfl (Ch (by rfl) T.n_range (Aa (Aq (An (K:=K)) T.n_len boot_len (Aa (pv 1) Af)) Af)) (Ax (i:=5) Cy.nd) (Ag (Av (i:=6) Cy.nd (Ju (pv 0) T.cl_Growth C8 hr (Aa (pv 5) Af)))
    (Ag (Ba (B3 (B0 (Ao M6 hr (Aa (pv 1) (Aa (pv 6) (Aa (pv 5) (Aa (pv 2) Af))))))) (Ah (At Cu)) Az)
    (Ag (Av (i:=7) Cy.nd (pA (K:=K) (by rfl) (by rfl) T.n_max (Aa (Ao AL hr (Aa (pv 1) (Aa (pv 6) (Aa (pv 2) Af)))) Af) (Qb Kb Aj)))
    (Ag (Ck (IE (pv 6)))
    (Ah (Ba (As Cq (pv 7) (Qb Kb Aj) (Aw _)) (Ah (Ck (Sl (K:=K) PySem.F.plainAttrs_list PySem.F.slot_list_append PySem.F.type_list_append Fh (pv 4) (Aa (pv 5) Af)))) (Ah (Ba (PW.pt (Ha (As (dY (u1 Lu)) (pv 7) (pv 3) rfl) (G9 (As (Pf (K:=K) Lu) (pv 7) (pv 4) rfl)))) (Ah (At Cu)) (Ah (U2 (u1 Lu) (pv 3) (pv 7) (pv 5) (by rfl))))))))))))
    (Ah (At (Eb (N':=["_law_place","_law_ends"]) (cap:=[none,some 3]) (by rfl) (by kernel_rfl) (Hf (K:=K) (pv 4)) (fun _ _ _ _=>(Ax (i:=0) sJ)) (fun _ _ _ _=>Ih) (fun _ _ _ _=>(By (Aa (pv 0) (Aa (bP (u1 Lu) (pv 1) (pv 0) ⟨by rfl,by rfl,by rfl,by rfl⟩) Af)))))))))),?_⟩
   obtain⟨_,us,z,Ur,ra⟩:=id hL;cases z;have DG:us.length=xs.length:=by have:=ra.length;simpa using this
   have gw:=x.gw;have n40:=gw.n40;have hp2:=x.pr.1.two;have Sv:=x.pr.2;have hel:=gw.le;have hsl:=gw.ls;refine Ar (fun σ' H'=>∃T:Addr,σ'=[some (.ref g),some (.ref a),some (.int p),some (.ref T),none,none,none,none]/\H T=none/\Same H H'/\H' T=some (.dK (cK []))) ?_ fun key=>?_;rotate_left
   . exact fun T hT=>key _ _ ⟨T,rfl,hT,Same.new hT,Ad⟩
   rintro _ H1 ⟨T,rfl,hT,s1,eT⟩;refine Ar (fun σ' H'=>∃B:Addr,σ'=[some (.ref g),some (.ref a),some (.int p),some (.ref T),some (.ref B),none,none,none]/\H1 B=none/\Same H1 H'/\H' B=some (.lst [])) ?_ fun key=>?_;rotate_left
   . exact⟨Nat.zero_le _,fun B hB=>key _ _ ⟨B,rfl,hB,Same.new hB,Ad⟩⟩
   rintro _ H2 ⟨B,rfl,hB1,s2,eB⟩;have hB:H B=none:=s1.free hB1;have nTB:T≠B:=Ap eT hB1;have s12:=s1.trans s2;refine Ar (t:=DJ _ _ _) (fun σ' G=>∃(ends:Ms) (o5 o6 o7:Option V),σ'=[some (.ref g),some (.ref a),some (.int p),some (.ref T),some (.ref B),o5,o6,o7]/\Same H G/\G T=some (.dK (cK ends))/\G B=some (.lst ((Bf es xs.length).map fun(j:Nat)=>V.int (j:Int)))/\∀b,lookI ends b=lookI bs b) ?_ fun key=>?_;rotate_left
   . refine⟨_,rfl,a,us,rfl,.inl (s12.seq Ur),_,rfl,by omega,by omega,?_⟩
     refine Dv (lo:=0) (n:=((us.length:Nat):Int).toNat) (fun i σ' G=>∃(ends:Ms) (o5 o6 o7:Option V),σ'=[some (.ref g),some (.ref a),some (.int p),some (.ref T),some (.ref B),o5,o6,o7]/\Same H G/\G T=some (.dK (cK ends))/\G B=some (.lst ((Bf es i).map fun(j:Nat)=>V.int (j:Int)))/\ends.length<=i/\∀b e,lookI ends b=some e↔∃(j:Nat) (m:Ms),j<i/\e=(j:Int)/\es[j]?=some m/\Nk m b)
      ⟨[],none,none,none,rfl,s12,s2 _ _ eT,eB,Nat.zero_le _,fun b e=>⟨fun z=>by simp[lookI]at z,fun⟨j,_,z,_⟩=>absurd z (Nat.not_lt_zero _)⟩⟩ ?_ ?_
     . rintro i σ' G hi ⟨ends,o5,o6,o7,rfl,g1,dF,hBG,ZN,Qp⟩;have hil:i<xs.length:=by omega
       rw[show(0:Int)+(i:Int)=(i:Int) by omega];have hs:ss[i]?=some (ss.getD i []):=Px (by omega);have he:es[i]?=some (es.getD i []):=Px (by omega);obtain⟨pK,kS⟩:=gw.sok i _ hs;obtain⟨okE,kE⟩:=gw.eok i _ he;have hown:=KG.own i _ hs;have JG:=KG.lev i _ hs;have MU:=qB gw KG hp2 hs he;generalize ss.getD i []=sm at hs pK kS hown JG MU;obtain⟨em,hem⟩:∃em,em=es.getD i []:=⟨_,rfl⟩
       have wU:=Xx es i;rw[←hem]at he okE kE MU wU;have sl:sm.length<=41:=E1 pK.nd fun y hy=>by have:=kS y hy;omega
       have xG:=x.same g1;obtain⟨dx,fs,hg,l1,l2,l3,l4,l5,lm⟩:=xG.ob;refine Ar (fun σ2 G2=>∃(D:Addr),σ2=[some (.ref g),some (.ref a),some (.int p),some (.ref T),some (.ref B),some (.int (i:Int)),some (.ref D),o7]/\Same G G2/\G D=none/\G2 D=some (.dK (cK sm))) ?_ fun ES=>?_;rotate_left
       . exact⟨_,rfl,g,dx,fs,rfl,hg,lm.2.2.2.2.1,_,rfl,g,pc,sh,ed,en,p,xs,es,ss,bs,sm,i,rfl,xG,hs,fun D G1 hD h1 eD=>ES _ _ ⟨D,rfl,h1,hD,eD⟩⟩
       rintro _ G1 ⟨D,rfl,h1,hD,eD⟩;have JH:=Rep.same (g1.trans h1) hL;refine Ar (fun σ2 G2=>σ2=[some (.ref g),some (.ref a),some (.int p),some (.ref T),some (.ref B),some (.int (i:Int)),some (.ref D),o7]/\Same G1 G2) ?_ fun ES=>?_;rotate_left
       . refine⟨_,rfl,_,rfl,_,rfl,_,rfl,a,D,xs,sm,p,i,rfl,JH,eD,pK,fun y hy=>⟨(kS y hy).1,(kS y hy).2,JG y hy⟩,hil,hown,by omega,fun G2 h2=>⟨_,rfl,?_⟩⟩;refine Da (by decide) ?_;exact ES _ _ ⟨rfl,h2⟩
       rintro _ G1' ⟨rfl,W3⟩;refine Ar (fun σ2 G2=>∃(m:Int),σ2=[some (.ref g),some (.ref a),some (.int p),some (.ref T),some (.ref B),some (.int (i:Int)),some (.ref D),some (.int m)]/\Same G G2/\G2 D=some (.dK (cK sm))/\((em=[]/\m=-1)\/Nk em m)) ?_ fun ES=>?_;rotate_left
       . refine⟨_,rfl,_,rfl,_,rfl,a,D,xs,sm,p,rfl,Rep.same W3 JH,x.le4.2,W3 _ _ eD,pK,fun y hy=>⟨(kS y hy).1,by have:=(kS y hy).2;omega⟩,by omega,by omega,Sv,fun l ks G3 nl h3 el hks=>?_⟩;refine⟨_,rfl,l,ks,-1,rfl,.of el,rfl,fun m hm=>?_⟩;have hke:∀y,y∈ks↔y∈A3 em:=fun y=>(hks y).trans (MU y);refine ES _ _ ⟨m,rfl,(h1.trans W3).trans h3,h3 _ _ (W3 _ _ eD),?_⟩;rcases hm with⟨z,zm⟩|⟨z1,z2⟩
         . left;refine⟨?_,zm⟩;cases em with
           | nil=>rfl
           | cons q r =>
             have:=(hke q.1).mpr (List.mem_cons_self ..);rw[z]at this;cases this
         . exact .inr ⟨(hke m).mp z1,fun y hy=>z2 y ((hke y).mpr hy)⟩
       rintro _ G2 ⟨m,rfl,h2,eD,hlow⟩;have nTD:T≠D:=Ap dF hD;have nBD:B≠D:=Ap hBG hD;refine⟨_,rfl,D,cK sm,rfl,eD,?_⟩;have h3:Same G (upd G2 D (.dK [])):=h2.turn hD;have g3:=g1.trans h3;have xP:=h3 _ _ dF;have wI:=h3 _ _ hBG;generalize upd G2 D (.dK [])=G3 at h3 g3 xP wI ⊢;have bl:(Bf es i).length<=i:=J8 es i;refine⟨_,rfl,_,rfl,rfl,_,rfl,?_⟩;rcases hlow with⟨hz,rfl⟩ | tb
       . refine Mc (by simp) ?_;rw[if_pos hz]at wU;refine⟨_,rfl,.inl ⟨rfl,_,.of wI⟩,_,rfl,B,_,_,rfl,rfl,wI,Dg (by rw[List.length_map];omega),?_⟩;refine⟨ends,_,_,_,rfl,g3.turn hB,by rw[Ae nTB];exact xP,?_,by omega,fun b e=>?_⟩
         . rw[Ad,wU,List.map_append];rfl
         . rw[Qp b e];constructor
           . rintro ⟨j,m,j1,j2⟩;exact⟨j,m,by omega,j2⟩
           . rintro ⟨j,m,j1,j2,j3,j4⟩;refine⟨j,m,?_,j2,j3,j4⟩;by_cases z:j=i
             . subst z;rw[he,hz]at j3;cases j3;exact(Nk.no j4).elim
             . omega
       . obtain⟨m0,m1,_⟩:=kE m tb.mem;have hne:¬em=[]:=fun z=>by rw[z]at tb;exact Nk.no tb
         rw[if_neg hne]at wU;refine Da (by simp;omega) ?_
         have hlk:lookI ends m=none:=by
          cases hl:lookI ends m with
          | none=>rfl
          | some e =>
            obtain⟨j,mj,j1,j2,j3,j4⟩:=(Qp m e).mp hl;have q1:=(gw.bls m (j:Int)).mpr ⟨j,mj,rfl,j3,j4⟩;have q2:=(gw.bls m (i:Int)).mpr ⟨i,em,rfl,he,tb⟩;rw[q1]at q2;have:=Option.some.inj q2;omega
         refine⟨_,rfl,_,rfl,T,cK ends,.inl m,rfl,xP,rfl,_,rfl,?_⟩;refine Da (by rw[Jb,hlk];decide) ?_;have gG:=NX gw KG x.pr.1 he tb;have hmem:m.toNat∈Bf es i:=J7.mpr ⟨by omega,MY gG⟩;refine⟨_,rfl,_,rfl,.int m,(Bf es i).map (fun(j:Nat)=>L2.D.int (j:Int)),rfl,.inl ⟨B,_,rfl,.of wI,c7 _⟩,Nat.le_trans (Nat.succ_le_succ (g6 _)) (by decide),_,rfl,?_⟩
         have hany:(((Bf es i).map (fun(j:Nat)=>L2.D.int (j:Int))).any fun e=>eqD e (.int m))=true:=by
          rw[List.any_map];refine List.any_eq_true.mpr ⟨m.toNat,hmem,?_⟩;show(((m.toNat:Nat):Int)==m)=true;simp;omega
         refine Da (by rw[hany];decide) ?_;refine⟨_,rfl,_,rfl,_,rfl,T,_,rfl,U9 xP (by omega),?_⟩;refine⟨_,_,_,_,rfl,g3.turn hT,Ad,?_,?_,fun b e=>?_⟩
         . rw[Ae nTB.symm,wU];exact wI
         . have:=AB ends m (i:Int);omega
         . rw[Ny];by_cases hb:b=m
           . rw[if_pos hb];constructor
             . intro z;cases z;exact⟨i,em,by omega,rfl,he,by rw[hb];exact tb⟩
             . rintro ⟨j,mj,j1,j2,j3,j4⟩;have q1:=(gw.bls b (j:Int)).mpr ⟨j,mj,rfl,j3,j4⟩;have q2:=(gw.bls b (i:Int)).mpr ⟨i,em,rfl,he,by rw[hb];exact tb⟩;rw[q1]at q2;rw[j2];exact q2.symm
           . rw[if_neg hb,Qp b e];constructor
             . rintro ⟨j,m',j1,j2⟩;exact⟨j,m',by omega,j2⟩
             . rintro ⟨j,m',j1,j2,j3,j4⟩;refine⟨j,m',?_,j2,j3,j4⟩;by_cases z:j=i
               . subst z;rw[he]at j3;cases j3;exact absurd (Nk.one j4 tb) hb
               . omega
     . rintro σ' G ⟨ends,o5,o6,o7,rfl,g1,dF,hBG,ZN,Qp⟩;rw[Int.toNat_natCast,DG]at hBG Qp;refine key _ _ ⟨ends,o5,o6,o7,rfl,g1,dF,hBG,fun b=>?_⟩;cases hl:lookI bs b with
       | some e =>
         obtain⟨j,m,j2,j3,j4⟩:=(gw.bls b e).mp hl;exact(Qp b e).mpr ⟨j,m,by rw[←hel];exact(List.getElem?_eq_some_iff.mp j3).1,j2,j3,j4⟩
       | none =>
         cases hl2:lookI ends b with
         | none=>rfl
         | some e =>
           obtain⟨j,m,_,j2,j3,j4⟩:=(Qp b e).mp hl2;have:=(gw.bls b e).mpr ⟨j,m,j2,j3,j4⟩;rw[hl]at this;cases this
   rintro _ G ⟨ends,o5,o6,o7,rfl,g1,dF,hBG,Qp⟩;have bl:(Bf es xs.length).length<=xs.length:=J8 es _;have hpe:∀j,B7 ends j=B7 bs j:=fun j=>by unfold B7;rw[jK (Qp (j:Int))]
   refine⟨_,rfl,B,rfl,⟨_,.of hBG⟩,fun D hD=>?_⟩
   refine fJ (K:=K) (a:=B) (xs:=(Bf es xs.length).map fun(j:Nat)=>V.int (j:Int)) (fun i ys τ G1=>Same G G1/\G1 D=some (.lst ys)/\Reps K G1 ys (((Bf es xs.length).take i).map (B7 bs))/\∃o,τ=[o,some (.ref T)])
    ⟨Same.new hD,Ad,rfl,none,rfl⟩ (fun i ys τ G1 _ ⟨h1,_⟩=>.of (h1 _ _ hBG)) ?_ ?_
   . rintro i y ys τ G1 hy ⟨h1,Hy,ry,o,rfl⟩;have hi:i<(Bf es xs.length).length:=by have:=(List.getElem?_eq_some_iff.mp hy).1;simpa using this
     obtain⟨j,hj⟩:∃j,(Bf es xs.length)[i]?=some j:=⟨_,List.getElem?_eq_getElem hi⟩
     obtain rfl:y=.int (j:Int):=by rw[List.getElem?_map,hj]at hy;exact(Option.some.inj hy).symm
     have yl:ys.length<=i:=by have:=ry.length;rw[List.length_map,List.length_take]at this;omega
     have hT1:=h1 _ _ dF;refine⟨_,rfl,_,rfl,T,rfl,.inl ⟨_,.inl hT1⟩,_,rfl,(lookI ends (j:Int)).map V.int,.inl ⟨cK ends,.inl (j:Int),.inl hT1,rfl,(Jb _ _).symm⟩,?_⟩;rw[GH];refine⟨Bc (by simp),fun t ht=>?_⟩;have st:=Same.new (o:=.tup [.int (j:Int),Ma ends (j:Int)]) ht;have et:upd G1 t (.tup [.int (j:Int),Ma ends (j:Int)]) t=some (.tup [.int (j:Int),Ma ends (j:Int)]):=Ad;generalize upd G1 t (.tup [.int (j:Int),Ma ends (j:Int)])=G2 at st et ⊢;have MV:=st _ _ Hy;refine⟨MV,Dg (by omega),(h1.trans st).turn hD,Ad,?_,_,rfl⟩;rw[List.take_succ,hj,List.map_append]
     have rj:Rep K G2 (.ref t) (B7 bs j):=by
      rw[←hpe];exact⟨t,_,rfl,.of et,⟨_,_,rfl,rfl,⟨_,_,rfl,fU _ _,rfl⟩⟩⟩
     refine Reps.t (E8.lst MV) ?_ (Reps.append (Reps.same st ry) ⟨_,_,rfl,rj,rfl⟩);have:=Hd bs ((Bf es xs.length).take i++[j]);rw[List.map_append]at this;exact this
   . rintro ys τ G1 ⟨h1,Hy,ry,_⟩;rw[List.length_map,List.take_length]at ry;refine k D ys G1 (g1.free hD) (g1.trans h1) Hy ?_;show Reps K G1 ys (F1 es bs es.length);unfold F1;rw[hel];exact ry
abbrev Dr:Stmt:=Gh (top 34) 1
theorem D3:FnScope ["self","thing","place","faces","papers","birth"] ["self","thing"] (Ai Dr):=A7
theorem V9{f:Addr}{fd:FuncData}(F:Fo K "grow" "Growth.grow" Dr f fd)(T:Ga K mg Al Am Ak Ab)(Ky:HasX P w K mg base "check_size" ["pieces"] 1 (Iv K Am))(Pj:Has P w K mg base "add_faces" ["chain","faces","number"] 2 (Kg K))(Fk:J9 P w K mg base Ab "settled" ["self","sheet","edge"] 3 (Mi K Ab))(mV:Has P w K mg base "fits" ["shape","thing"] 4 (Vh K))(Pi:UB P w K mg base Ak Al ["self","place"] 1 (Fz K Ak))(Hl:Has P w K mg base "counted" ["chain","prime"] 1 (Kf K)):Bj P w K mg base (oK P w) 5 f fd ["self","thing"] (spZ_grow K Ab Ak Am):=by
 refine F.okX D3 (fun vs H Q E h=>?_) (fun Cl A outer s H vs Q E hr h=>?_)
 . obtain⟨g,pc,sh,ed,en,Z,v,e,p,xs,es,ss,bs,rfl,xz,hv,k1,k2,k3⟩:=h;rfl
 . obtain⟨g,pc,sh,ed,en,Z,v,e,p,xs,es,ss,bs,rfl,xz,hv,k1,k2,k3⟩:=h;have Lu:=hr.u8
   refine⟨_,(Ag (Av (i:=2) D3.nd (Aq (An (K:=K)) T.n_len boot_len (Aa (Bk (K:=K) (pv 0)) Af)))
    (Ag (Ba (B3 (B0 (Ao mV hr (Aa (Bk (K:=K) (pv 0)) (Aa (pv 1) Af))))) (Ah (HX EN (by rfl) Pi hr (by rfl) T.m_NoPiece (Aa (pv 2) Af))) Az)
    (Ag (Ck (lP JI Ky hr (by rfl) (Aa (A6 (Sm (K:=K)) (Bk (K:=K) (pv 0)) (Eg (Aa (pv 1) Af))) Af)))
    (Ag (Av (i:=3) D3.nd Mq)
    (Ag (Ck (Ao Pj hr (Aa (pv 3) (Aa (pv 1) (Aa Aj Af)))))
    (Ag (Av (i:=4) D3.nd (Ju (pv 0) T.cl_Growth Fk hr (Aa (PB (lD (pv 2) Aj oW) (by rfl) (by rfl) (by intro z;cases z) (Nat.le_of_ble_eq_true rfl)) (Aa (Ao Hl hr (Aa (pv 3) (Aa (Bk (K:=K) (pv 0)) Af))) Af))))
    (Ag (Ck (Sl (K:=K) PySem.F.plainAttrs_list PySem.F.slot_list_append PySem.F.type_list_append Fh (Bk (K:=K) (pv 0)) (Aa (pv 1) Af)))
    (Ag (Ck (Sl (K:=K) PySem.F.plainAttrs_list PySem.F.slot_list_append PySem.F.type_list_append Fh (Bk (K:=K) (pv 0)) (Aa (A5 (Be (K:=K)) (pv 4) Aj (fun _ _=>rfl)) Af)))
    (Ag (Ck (Sl (K:=K) PySem.F.plainAttrs_list PySem.F.slot_list_append PySem.F.type_list_append Fh (Bk (K:=K) (pv 0)) (Aa (A5 (Be (K:=K)) (pv 4) Aj (fun _ _=>rfl)) Af)))
    (Ag (Ba (As Cq (Aq Oa T.n_len boot_len (Aa (A5 (Be (K:=K)) (pv 4) Aj (fun _ _=>rfl)) Af)) Aj (Aw _)) (Ah (At Cu)) Az)
    (Ag (Av (i:=5) D3.nd (Aq (N9 (by rfl)) T.n_max Fm (Aa (A5 (Be (K:=K)) (pv 4) Aj (fun _ _=>rfl)) Af)))
    (Ag (U2 (u1 Lu) (Bk (K:=K) (pv 0)) (pv 5) (pv 2) (by rfl))
    (Ah (At (pv 5))))))))))))))),?_⟩
   have x:=xz.at_;have KG:=xz.sht;have zin:=xz.zin;obtain⟨dx,fs,hg,l1,l2,l3,l4,l5,lm⟩:=x.ob;obtain⟨us,Zi,r⟩:=x.pcs;have OI:us.length=xs.length:=by have:=r.length;simpa using this
   have hp2:=x.pr.1.two;have Sv:=x.pr.2;have n40:=x.gw.n40;have pW:=Rz x.gw.shp;refine⟨_,rfl,g,Ab,dx,fs,_,rfl,hg,T.cl_Growth,T.na_Growth_pieces,l2,pc,us,rfl,.inl (.of Zi),?_⟩;rw[OI];refine⟨_,rfl,g,Ab,dx,fs,_,rfl,hg,T.cl_Growth,T.na_Growth_pieces,l2,_,rfl,pc,v,e,xs,rfl,⟨pc,us,rfl,.of Zi,r⟩,hv,fun H1 s1=>⟨_,rfl,?_⟩⟩;have x1:=x.same s1;have hg1:=s1 _ _ hg;have ZH:=s1 _ _ Zi;by_cases hf:E7 xs e=true;rotate_left
   . refine Mc (by simpa using hf) ?_;refine⟨_,rfl,Bc (by simp),fun y hy=>?_⟩;refine⟨y,(xs.length:Int),rfl,Ad,iX (by omega),fun d hd=>⟨rfl,d,Ad,?_⟩⟩;obtain⟨z1,z2⟩:=bK (fs:=[("place",.int (xs.length:Int))]) s1 hy hd;exact k1 hf d _ z1 z2
   refine Da (by rw[hf];decide) ?_;obtain⟨q,rfl,hfd⟩:=jJ hf;have PX:=qA pW hfd;have hv:TI K H v q:=hv;refine⟨_,rfl,g,Ab,dx,fs,_,rfl,hg1,T.cl_Growth,T.na_Growth_pieces,l2,_,rfl,Bc (by simp),fun m1 hm1=>⟨pc,m1,us,[v],rfl,rfl,?_,.of Ad,Bc (by simp;omega),fun m2 hm2=>?_⟩⟩
   . exact .of (Same.new hm1 _ _ ZH)
   have s3:=(s1.trans (Same.new (o:=.lst [v]) hm1)).trans (Same.new (o:=.lst (us++[v])) hm2);refine⟨m2,us++[v],rfl,.of Ad,fun qV=>?_,fun qV H' s'=>?_⟩;rotate_left
   . exact k2 hf (by simp at qV;omega) H' (s3.trans s')
   have hlt:xs.length<40:=by simp at qV;omega
   generalize upd (upd H1 m1 (.lst [v])) m2 (.lst (us++[v]))=H3 at s3;have x3:=x.same s3;refine fun D hD=>?_;have s4:Same H3 (upd H3 D (.dK (cK []))):=Same.new hD;refine⟨_,rfl,_,rfl,D,v,[],q,1,rfl,Ad,Rep.same (s3.trans s4) hv,?_,fun H5 st hD5=>?_⟩
   . have:=PX.cnt;simp;omega
   have s5:Same H H5:=s3.trans (HH hD st);have x5:=x.same s5;have zN:=s5 _ _ hg;have kad:∀y∈A3 (bA [] q 1),y∈q:=fun y hy=>d4 (Nat.le_refl _) hy;have VN:nd (bA [] q 1):=Wj (ms:=[]) (by simp[nd]) q 1 q.length
   have lev:∀y∈q,0<=y/\y<(xs.length:Int)/\(xs.getD y.toNat []).length-1+1=q.length-1:=fun y hy=>by
    obtain⟨w,hw,hlv⟩:=PX.bel y hy;have h0:=PX.low y hy;have hl:=(List.getElem?_eq_some_iff.mp hw).1;refine⟨h0,by omega,?_⟩;rw[List.getD_eq_getElem?_getD,hw];exact hlv
   have lad:(bA [] q 1).length<=41:=E1 VN fun y hy=>by
    have:=lev y (kad y hy);omega
   refine⟨_,rfl,g,dx,fs,rfl,zN,lm.2.1,fun P hP=>⟨_,rfl,Ad,[(.inl (xs.length:Int),.int 1)],rfl,by simp,?_⟩⟩;obtain⟨H6,e6⟩:∃Z,Z=upd (upd H5 P (.dK [])) P (.dK (Fi [] [((.inl (xs.length:Int):Key),V.int 1)])):=⟨_,rfl⟩
   have hP6:H6 P=some (.dK (cK [((xs.length:Int),1)])):=by rw[e6];exact Ad
   have s6':Same H5 H6:=by rw[e6];exact(Same.new (o:=.dK []) hP).turn hP
   rw[←e6];clear e6;have s6:=s5.trans s6';refine⟨_,rfl,_,rfl,g,Ab,dx,fs,_,rfl,s6 _ _ hg,T.cl_Growth,T.na_Growth_prime,l1,D,bA [] q 1,p,rfl,s6' _ _ hD5,by omega,VN,by omega,fun F H7 hF s7' hF7=>?_⟩;have s7:=s6.trans s7';have x7:=x.same s7;have en5:=x5.ens;have en6:=s6 _ _ x.ens;refine⟨g,pc,sh,ed,en,P,F,Z,p,xs,es,ss,bs,[((xs.length:Int),1)],modI p (bA [] q 1),q.length-1,q,rfl,x7,s7' _ _ hP6,hF7,(fun c z=>(xz.same s7).zin c z),(fun z=>zin _ z (s5.free hP)),(fun z=>zin _ z (s6.free hF)),⟨?_,?_⟩,z9 VN (by omega),?_,?_,KG,Lz.first (fun f hf=>(lev f hf).1),rfl,?_⟩
   . simp[nd]
   . intro y hy;simp at hy;subst hy;exact⟨by simp,hp2⟩
   . intro y hy;simp[A3]at hy;omega
   . exact fun y hy=>lev y (kad y (mG hy))
   intro t s' e' ms' E6 H8 s8' ht hs' he' nzs nze lS kH kk1 kk2 hno nok;have ns':s'≠en:=fun z=>nzs (by rw[z];exact xz.zen);have ne':e'≠en:=fun z=>nze (by rw[z];exact xz.zen);have s8:=s7.trans s8';have x8:=x.same s8;have tD:=s8 _ _ hg;have jG:=s8 _ _ Zi;have r8:=Reps.same s8 r;have hv8:TI K H8 v q:=Rep.same s8 hv;obtain⟨ds,Qq,dl,dg⟩:=x8.eds.ex;obtain⟨cs,hsh,cl,cg⟩:=x8.shs.ex;have dsn:=Tu dl dg he' ne';have csn:=Tu cl cg hs' ns';have A21:ds.length<=40:=by rw[dl,x.gw.le];exact n40
   have A24:cs.length<=40:=by rw[cl,x.gw.ls];exact n40
   obtain⟨n1,n2,n3⟩:=x.ne;have kJ:=x8.ens;have gp:g≠pc:=Dh tD jG (fun z=>by cases z);have gs:g≠sh:=Dh tD hsh (fun z=>by cases z);have ge:g≠ed:=Dh tD Qq (fun z=>by cases z);have tp:t≠pc:=Dh ht jG (fun z=>by cases z);have ts:t≠sh:=Dh ht hsh (fun z=>by cases z);have te:t≠ed:=Dh ht Qq (fun z=>by cases z);have ep:e'≠pc:=Dh he' jG (fun z=>by cases z);have es':e'≠sh:=Dh he' hsh (fun z=>by cases z);have ee:e'≠ed:=Dh he' Qq (fun z=>by cases z);have np:en≠pc:=Dh kJ jG (fun z=>by cases z);have nsh:en≠sh:=Dh kJ hsh (fun z=>by cases z);have MD:en≠ed:=Dh kJ Qq (fun z=>by cases z)
   have rs:Reps K H8 (us++[v]) ((xs++[q]).map tI):=by
    rw[List.map_append];exact Reps.append r8 ⟨_,_,rfl,hv8,rfl⟩
   refine⟨_,rfl,g,Ab,dx,fs,_,rfl,tD,T.cl_Growth,T.na_Growth_pieces,l2,.inl ⟨rfl,us,.of jG⟩,_,rfl,pc,us,v,rfl,rfl,jG,Dg (by omega),?_⟩;refine⟨_,rfl,g,Ab,dx,fs,_,rfl,(by rw[Ae gp];exact tD),T.cl_Growth,T.na_Growth_sheets,l3,.inl ⟨rfl,_,.of (by rw[Ae n1.symm];exact hsh)⟩,_,rfl,t,_,_,_,rfl,rfl,.of (by rw[Ae tp];exact ht),TX _ _,sh,_,_,rfl,rfl,(by rw[Ae n1.symm];exact hsh),Dg (by rw[List.length_map];omega),?_⟩;refine⟨_,rfl,g,Ab,dx,fs,_,rfl,(by rw[Ae gs,Ae gp];exact tD),T.cl_Growth,T.na_Growth_edges,l4,.inl ⟨rfl,_,.of (by rw[Ae n3.symm,Ae n2.symm];exact Qq)⟩,_,rfl,t,_,_,_,rfl,rfl,.of (by rw[Ae ts,Ae tp];exact ht),GR _ _ _,ed,_,_,rfl,rfl,(by rw[Ae n3.symm,Ae n2.symm];exact Qq),Dg (by rw[List.length_map];omega),?_⟩;rw[He,He];have put:=fun bs' gw=>x8.put (us:=us++[v]) (ds:=ds++[e']) (cs:=cs++[s']) (xs':=xs++[q]) (es':=es++[E6]) (ss':=ss++[ms']) (bs':=bs') rs dsn.1 dsn.2 csn.1 csn.2 gw;have xS:=fun bs' hb=>x.gw.grow (bs':=bs') PX hlt ⟨lS,kk1,kH,kk2,hno⟩ hb;have uK:=fun bs'=>Hz.four (pc:=pc) (sh:=sh) (ed:=ed) (en:=en) (o1:=.lst (us++[v])) (o2:=.lst ((cs++[s']).map V.ref)) (o3:=.lst ((ds++[e']).map V.ref)) (o4:=.dK (cK bs')) s8;obtain⟨H9,e9⟩:∃Z,Z=upd (upd (upd H8 pc (.lst (us++[v]))) sh (.lst ((cs++[s']).map V.ref))) ed (.lst ((ds++[e']).map V.ref)):=⟨_,rfl⟩
   rw[←e9]at put uK ⊢;have hg9:H9 g=some (.ins Ab dx fs):=by rw[e9,Ae ge,Ae gs,Ae gp];exact tD
   have ht9:H9 t=some (.tup [.ref s',.ref e']):=by rw[e9,Ae te,Ae ts,Ae tp];exact ht
   have he9:H9 e'=some (.dK (cK E6)):=by rw[e9,Ae ee,Ae es',Ae ep];exact he'
   have en9:H9 en=some (.dK (cK bs)):=by rw[e9,Ae MD,Ae nsh,Ae np];exact kJ
   have WB:H9 ed=some (.lst ((ds++[e']).map V.ref)):=by rw[e9];exact Ad
   have vW:H9 sh=some (.lst ((cs++[s']).map V.ref)):=by rw[e9,Ae n3];exact Ad
   have vJ:∀d∈ds++[e'],¬Z d:=fun d hd=>by
    rcases List.mem_append.mp hd with z | z
    . exact(xz.same s8).ze ds Qq d z
    . rw[List.mem_singleton]at z;rw[z];exact nze
   have vN:∀c∈cs++[s'],¬Z c:=fun c hc=>by
    rcases List.mem_append.mp hc with z | z
    . exact(xz.same s8).zs cs hsh c z
    . rw[List.mem_singleton]at z;rw[z];exact nzs
   clear e9;refine Cm (fun σ' H'=>σ'=[some (.ref g),some v,some (.int (xs.length:Int)),some (.ref D),some (.ref t),none]/\H9=H') ?_ fun Hg=>Hg _ _ ⟨rfl,rfl⟩;rintro _ _ ⟨rfl,rfl⟩;refine⟨_,rfl,t,_,_,_,rfl,rfl,.of ht9,GR _ _ _,e',cK E6,rfl,he9,rfl,_,rfl,?_⟩;rw[Hv];by_cases hz:E6=[]
   . subst hz;refine Mc (by simp) ?_;have w:=put bs (xS bs (.inl ⟨rfl,rfl⟩));have f:=uK bs;rw[dH en9]at w f;exact k3 q rfl hf hlt _ _ _ _ _ f (xz.after f w (KG.grow x.gw nok) WB vW vJ vN) (.inl ⟨rfl,rfl⟩)
   refine Da (by simpa using hz) ?_;refine⟨_,rfl,t,_,_,_,rfl,rfl,.of ht9,GR _ _ _,e',A3 E6,cK E6,rfl,he9,U6 E6,U5 hz,fun b hb1 hb2=>?_⟩;have tb:Nk E6 b:=⟨hb1,hb2⟩
   refine⟨_,rfl,_,rfl,g,Ab,dx,fs,_,rfl,hg9,T.cl_Growth,T.na_Growth_enders,l5,_,rfl,en,_,rfl,U9 en9 (Nat.le_trans x.gw.blen (by decide)),?_⟩;refine⟨_,rfl,?_⟩;obtain⟨b1,b2,b3⟩:=kk2 b hb1;exact k3 q rfl hf hlt _ _ _ _ _ (uK _) (xz.after (uK _) (put _ (xS _ (.inr ⟨b,tb,rfl⟩))) (KG.grow x.gw nok) (by rw[Ae MD.symm];exact WB) (by rw[Ae nsh.symm];exact vW) vJ vN) (.inr ⟨b,tb,rfl⟩)
abbrev Cn:Stmt:=top 51
theorem Bm:FnScope ["_law_growth","_law_pieces","_law_due","_law_turn","_law_stages","_law_k","_law_level_here","_law_way","_law_found"] ["_law_growth","_law_pieces","_law_due","_law_turn"] (Ai Cn):=A7
theorem Sb{f:Addr}{fd:FuncData}(F:Fo K "_law_alive_right" "_law_alive_right" Cn f fd)(T:Ga K mg Al Am Ak Ab)(Fj:OD P w K mg base Ab "alive" ["self","k","stage"] [.non] 4 (Ji K Ab))(Hj:J9 P w K mg base Ab "alive" ["self","k","stage"] 4 (Ji K Ab))(Br:Has P w K mg base "_law_whole" ["_law_found"] 1 (D0 K))(K5:Has P w K mg base "_law_alive_due" ["_law_pieces","_law_due","_law_level_here","_law_stage"] 2 (o0 K)):Bj P w K mg base Er 5 f fd ["_law_growth","_law_pieces","_law_due","_law_turn"] (Rp K Ab):=by
 refine F.ok Bm (fun vs H Q E h=>?_) (fun Cl A outer s H vs Q E hr h=>?_)
 . obtain⟨g,pc,sh,ed,en,a,b,turn,p,xs,es,ss,bs,rfl,x,hL,hB,k⟩:=h;rfl
 . obtain⟨g,pc,sh,ed,en,a,b,turn,p,xs,es,ss,bs,rfl,x,hL,hB,k⟩:=h
   refine⟨_,(Ag (Av (i:=4) Bm.nd (Eg (Aa (Aq (An (K:=K)) T.n_len boot_len (Aa (pv 1) Af)) (Aa (A6 Bs (A6 F2 (pv 3) (A6 Ik (pv 3) Aj)) (A6 F2 (Aq (An (K:=K)) T.n_len boot_len (Aa (pv 1) Af)) Aj)) Af))))
    (Ag (C5 PassesOwn.never rfl (Ch (by rfl) T.n_range (Aa Aj Af)) (Ax (i:=5) Bm.nd) (Ag (Av (i:=6) Bm.nd (A6 Ik (pv 5) Aj))
    (Ag (Ba (As Cq (A6 Bs (pv 3) Aj) Aj (Aw _)) (Ah (Av (i:=6) Bm.nd (A6 Mr Aj (pv 6)))) Az)
    (Ag (Av (i:=7) Bm.nd (A6 Bs (A6 F2 (pv 5) (A6 Ik (pv 3) Aj)) Aj))
    (Ag (Av (i:=8) Bm.nd Aj)
    (Ag (Ba (As Cq (pv 7) Aj (Aw _)) (Ah (Av (i:=8) Bm.nd (iE (pv 0) T.cl_Growth Fj hr (Aa (pv 6) Af)))) (Ah (Av (i:=8) Bm.nd (Ju (pv 0) T.cl_Growth Hj hr (Aa (pv 6) (Aa (A5 (A2 (K:=K)) (pv 4) Aj (fun _ _=>rfl)) Af))))))
    (Ah (Ba (PW.pt (Ha (B3 (B0 (Ao Br hr (Aa (pv 8) Af)))) (G9 (As Lo (pv 8) (Ao K5 hr (Aa (pv 1) (Aa (pv 2) (Aa (pv 6) (Aa (A5 (A2 (K:=K)) (pv 4) (pv 7) (fun _ _=>rfl)) Af))))) (Aw _))))) (Ah (At Cc)) Az))))))))
    (Ah (At Cc)))),?_⟩
   obtain⟨_,us,z,Ur,ra⟩:=id hL;cases z;have DG:us.length=xs.length:=by have:=ra.length;simpa using this
   have hel:=x.gw.le;refine Ar (fun σ' H'=>∃(S:Addr) (s1:Int),σ'=[some (.ref g),some (.ref a),some (.ref b),some (.int turn),some (.ref S),none,none,none,none]/\Same H H'/\H' S=some (.lst [.int (xs.length:Int),.int s1])/\0<=s1/\s1<=(xs.length:Int)) ?_ fun key=>?_;rotate_left
   . refine⟨_,rfl,a,us,rfl,.inl Ur,_,rfl,_,rfl,_,_,rfl,rfl,⟨by decide,by decide⟩,_,_,rfl,rfl,_,rfl,a,us,rfl,.inl Ur,_,_,rfl,rfl,_,_,rfl,rfl,(by show(0:Int)<(us.length:Int)+1;omega),Bc (by simp),fun S hS=>?_⟩;have q0:=Int.emod_nonneg (turn+turn / 12) (show((us.length:Int)+1)≠0 by omega);have q1:=Int.emod_lt_of_pos (turn+turn / 12) (show(0:Int)<(us.length:Int)+1 by omega);rw[DG]at q0 q1;exact key _ _ ⟨S,_,rfl,Same.new hS,by rw[Ad,DG],q0,by omega⟩
   rintro _ H1 ⟨S,s1,rfl,t1,hS,b0,b1⟩;refine⟨_,rfl,by decide,by decide,?_⟩;refine Dv (lo:=0) (n:=8) (fun i σ' G=>∃(o5 o6 o7 o8:Option V),σ'=[some (.ref g),some (.ref a),some (.ref b),some (.int turn),some (.ref S),o5,o6,o7,o8]/\Same H1 G) ⟨none,none,none,none,rfl,Same.refl H1⟩ ?_ ?_
   . rintro i σ' G hi ⟨o5,o6,o7,o8,rfl,g1⟩;have hi8:i<8:=hi;have gs:=t1.trans g1;have xG:=x.same gs;obtain⟨dx,fs,hg,l1,l2,l3,l4,l5,lm⟩:=xG.ob;rw[show(0:Int)+(i:Int)=(i:Int) by omega];have hSG:=g1 _ _ hS;refine Ar (fun σ2 G2=>∃lv:Int,σ2=[some (.ref g),some (.ref a),some (.ref b),some (.int turn),some (.ref S),some (.int (i:Int)),some (.int lv),o7,o8]/\G=G2/\0<=lv/\lv<4) ?_ fun key=>?_;rotate_left
     . exact⟨_,rfl,_,_,rfl,rfl,⟨by decide,by decide⟩,key _ _ ⟨_,rfl,rfl,by omega,by omega⟩⟩
     rintro _ _ ⟨lv0,rfl,rfl,m0,m1⟩;refine Ar (t:=T8 _ _ _) (fun σ2 G2=>∃lv:Int,σ2=[some (.ref g),some (.ref a),some (.ref b),some (.int turn),some (.ref S),some (.int (i:Int)),some (.int lv),o7,o8]/\G=G2/\0<=lv/\lv<4) ?_ fun key=>?_;rotate_left
     . refine⟨_,rfl,_,_,rfl,rfl,(by show(0:Int)<2;decide),rfl,_,rfl,?_⟩;refine ite2 (fun _=>?_) (fun _=>key _ _ ⟨_,rfl,rfl,m0,m1⟩);exact⟨_,rfl,_,_,rfl,rfl,key _ _ ⟨_,rfl,rfl,by omega,by omega⟩⟩
     rintro _ _ ⟨lv,rfl,rfl,v0,v1⟩;refine Ar (fun σ2 G2=>∃wy:Int,σ2=[some (.ref g),some (.ref a),some (.ref b),some (.int turn),some (.ref S),some (.int (i:Int)),some (.int lv),some (.int wy),o8]/\G=G2/\(wy=0\/wy=1)) ?_ fun key=>?_;rotate_left
     . exact⟨_,rfl,_,rfl,_,_,rfl,rfl,⟨by decide,by decide⟩,_,_,rfl,rfl,_,_,rfl,rfl,(by show(0:Int)<2;decide),key _ _ ⟨_,rfl,rfl,by omega⟩⟩
     rintro _ _ ⟨wy,rfl,rfl,hwy⟩;refine P4 [some (.ref g),some (.ref a),some (.ref b),some (.int turn),some (.ref S),some (.int (i:Int)),some (.int lv),some (.int wy),some (.int 0)] G (fun _ h=>h) ?_
     obtain⟨st,hst,hat⟩:∃st:Int,((wy=0/\st=(xs.length:Int))\/(wy=1/\st=s1))/\Uw [V.int (xs.length:Int),V.int s1] wy=some (.int st):=by
      rcases hwy with rfl | rfl
      . exact⟨_,.inl ⟨rfl,rfl⟩,TX _ _⟩
      . exact⟨_,.inr ⟨rfl,rfl⟩,GR _ _ _⟩
     refine Ar (t:=T8 _ _ _) (fun σ2 G2=>σ2=[some (.ref g),some (.ref a),some (.ref b),some (.int turn),some (.ref S),some (.int (i:Int)),some (.int lv),some (.int wy),some (.int (Pz xs es bs lv st:Nat))]/\Same G G2) ?_ fun key=>?_;rotate_left
     . refine⟨_,rfl,rfl,_,rfl,?_⟩;rcases hst with⟨rfl,rfl⟩|⟨rfl,rfl⟩
       . refine Mc (by simp) ?_;exact⟨_,rfl,g,dx,fs,rfl,hg,lm.2.2.2.2.2.2,_,rfl,g,pc,sh,ed,en,.non,lv,_,p,xs,es,ss,bs,rfl,xG,v0,v1,.inl ⟨rfl,rfl⟩,fun H' s'=>key _ _ ⟨rfl,s'⟩⟩
       . refine Da (by simp) ?_;exact⟨_,rfl,g,dx,fs,rfl,hg,lm.2.2.2.2.2.2,_,rfl,_,rfl,S,_,_,_,rfl,rfl,.of hSG,GR _ _ _,g,pc,sh,ed,en,_,lv,_,p,xs,es,ss,bs,rfl,xG,v0,v1,.inr ⟨rfl,b0,b1⟩,fun H' s'=>key _ _ ⟨rfl,s'⟩⟩
     rintro _ G2 ⟨rfl,g2⟩;refine⟨_,rfl,_,.int (Pz xs es bs lv st:Nat),rfl,rfl,_,rfl,?_⟩;refine Da (by simp[Cw,U7]) ?_;refine⟨_,rfl,_,rfl,_,rfl,_,rfl,_,rfl,_,rfl,S,_,_,_,rfl,rfl,.of (g2 _ _ hSG),hat,a,b,lv,st,xs,es,bs,rfl,Rep.same (gs.trans g2) hL,Rep.same (gs.trans g2) hB,hel,rfl,_,rfl,?_⟩;refine Da (by simp) ?_;exact⟨_,_,_,_,rfl,g1.trans g2⟩
   . rintro σ' G ⟨o5,o6,o7,o8,rfl,g1⟩;exact k G (t1.trans g1)
abbrev Jo:Stmt:=top 52
theorem Jj:FnScope ["_law_growth","_law_pieces","_law_prime_here","_law_turn","_law_held","_law_found","_law_paper","_law_due"] ["_law_growth","_law_pieces","_law_prime_here","_law_turn","_law_held"] (Ai Jo):=A7
theorem iI{f:Addr}{fd:FuncData}(F:Fo K "_law_look" "_law_look" Jo f fd)(T:Ga K mg Al Am Ak Ab)(B5:J9 P w K mg base Ab "pairs" ["self"] 1 (Nr K Ab))(Ee:Has P w K mg base "_law_pairs_due" ["_law_growth","_law_pieces","_law_prime_here"] 4 (Uz K Ab))(C8:J9 P w K mg base Ab "paper" ["self","place"] 3 (Nq K Ab))(K4:Has P w K mg base "_law_are_pairs" ["_law_found","_law_due"] 2 (Ke K))(Hn:Has P w K mg base "_law_alive_right" ["_law_growth","_law_pieces","_law_due","_law_turn"] 5 (Rp K Ab))(Hi:J9 P w K mg base Ab "shape" ["self"] 1 (Rt K Ab)):Bj P w K mg base Er 6 f fd ["_law_growth","_law_pieces","_law_prime_here","_law_turn","_law_held"] (P6 K Ab):=by
 refine F.ok Jj (fun vs H Q E h=>?_) (fun Cl A outer s H vs Q E hr h=>?_)
 . obtain⟨g,pc,sh,ed,en,a,hd,W,Z,turn,p,xs,es,ss,bs,ps,rfl,x,hpl,k⟩:=h;rfl
 . obtain⟨g,pc,sh,ed,en,a,hd,W,Z,turn,p,xs,es,ss,bs,ps,rfl,x,hpl,k⟩:=h;have Lu:=hr.u8
   refine⟨_,(Ag (Av (i:=5) Jj.nd (Jt (pv 0) T.cl_Growth B5 hr))
    (Ag (Ck (Sl (K:=K) PySem.F.plainAttrs_list PySem.F.slot_list_append PySem.F.type_list_append Fh (pv 4) (Aa (By (Aa (pv 5) (Aa (C7 (Oq (K:=K)) (by rfl) T.n_list Pw (Aa (pv 5) Af)) Af))) Af)))
    (Ag (Ba (As To (Aq (An (K:=K)) T.n_len boot_len (Aa (pv 1) Af)) Aj (Aw _)) (Ag (Av (i:=6) Jj.nd (Ju (pv 0) T.cl_Growth C8 hr (Aa (A6 Bs (pv 3) (Aq (An (K:=K)) T.n_len boot_len (Aa (pv 1) Af))) Af)))
    (Ah (Ck (Sl (K:=K) PySem.F.plainAttrs_list PySem.F.slot_list_append PySem.F.type_list_append Fh (pv 4) (Aa (By (Aa (pv 6) (Aa (C7 Pu (by rfl) T.n_dict Fn (Aa (pv 6) Af)) Af))) Af))))) Az)
    (Ag (Ba (PW.pt (Kl (As Cq (A6 Bs (pv 3) Aj) Aj (Aw _)) (Ig (B3 (As (pP (K:=K) Lu) (Jt (pv 0) T.cl_Growth Hi hr) (pv 1) (Aw _)))))) (Ah (At Cc)) Az)
    (Ag (Av (i:=7) Jj.nd (Ao Ee hr (Aa (pv 0) (Aa (pv 1) (Aa (pv 2) Af)))))
    (Ag (Ba (As Pc (pv 7) Cu (Aw _)) (Ah (At Cc)) Az)
    (Ag (Ba (As Ij (A6 Bs (pv 3) Aj) Aj (Aw _)) (Ah (Av (i:=5) Jj.nd (Jt (pv 0) T.cl_Growth B5 hr))) Az)
    (Ah (At (Ix (Ao K4 hr (Aa (pv 5) (Aa (pv 7) Af))) (Hc (Ao Hn hr (Aa (pv 0) (Aa (pv 1) (Aa (pv 7) (Aa (pv 3) Af)))))))))))))))),?_⟩
   have tE:deps (De es bs)<=2:=Pb bs (Bf es es.length);have SY:imms (De es bs)=true:=Hd bs (Bf es es.length);obtain⟨dx,fs,hg,l1,l2,l3,l4,l5,lm⟩:=x.gr.at_.ob;refine Ar (fun σ' G=>∃(F:Addr) (us:List V),σ'=[some (.ref g),some (.ref a),some (.int p),some (.int turn),some (.ref hd),some (.ref F),none,none]/\Same H G/\H F=none/\G F=some (.lst us)/\Reps K G us (De es bs)) ?_ fun key=>?_;rotate_left
   . exact⟨_,rfl,g,dx,fs,rfl,hg,lm.2.2.2.2.2.1,g,pc,sh,ed,en,p,xs,es,ss,bs,rfl,x.gr.at_,fun l us H' nl s' el rl=>key _ _ ⟨l,us,rfl,s',nl,el,rl⟩⟩
   rintro _ H1 ⟨F,us,rfl,s1,nF,eF,rF⟩;have x1:=x.same s1;have nFh:F≠hd:=fun z=>by rw[z,x.at_]at nF;cases nF
   refine Ar (fun σ' G=>∃(ps':List V),σ'=[some (.ref g),some (.ref a),some (.int p),some (.int turn),some (.ref hd),some (.ref F),none,none]/\DF hd H G/\Ex K Ab G W Z g pc sh ed en a hd p xs es ss bs ps'/\ps'.length<=ps.length+1/\∃us,G F=some (.lst us)/\Reps K G us (De es bs)) ?_ fun key=>?_;rotate_left
   . refine⟨_,rfl,.inl ⟨rfl,_,.of x1.at_⟩,_,rfl,_,rfl,F,us,rfl,.inl (.of eF),fun m hm=>?_⟩;have s2:=Same.new (o:=.lst us) hm;have em:upd H1 m (.lst us) m=some (.lst us):=Ad;generalize upd H1 m (.lst us)=H2 at s2 em ⊢;refine⟨Bc (by simp),fun t ht=>?_⟩;have s3:=Same.new (o:=.tup [.ref F,.ref m]) ht;have et:upd H2 t (.tup [.ref F,.ref m]) t=some (.tup [.ref F,.ref m]):=Ad;generalize upd H2 t (.tup [.ref F,.ref m])=H3 at s3 et ⊢;have KZ:=s2.trans s3;have x3:=x1.same KZ;have there:∀c,W c->H c≠none:=fun c w=>(x.wm c w).there;have pr:T2 K H3 W (.ref t):=⟨t,F,m,rfl,Fx there (s1.free (s2.free ht)) et,.inl ⟨us,us,De es bs,Fx there nF (KZ _ _ eF),Fx there (s1.free hm) (s3 _ _ em),Reps.same KZ rF,Reps.same KZ rF,SY,by omega⟩⟩
     refine⟨hd,ps,_,rfl,rfl,x3.at_,Dg (by omega),?_⟩;refine key _ _ ⟨ps++[.ref t],rfl,(DF.of (s1.trans KZ)).trans DF.up,x3.put pr,by simp,?_⟩;exact⟨us,by rw[Ae nFh];exact KZ _ _ eF,Reps.t (E8.lst x3.at_) SY (Reps.same KZ rF)⟩
   rintro _ H2 ⟨ps2,rfl,xX,x2,hp2,UM,eF2,rF2⟩;refine Ar (t:=T8 _ _ _) (fun σ' G=>∃(ps':List V) (o6:Option V),σ'=[some (.ref g),some (.ref a),some (.int p),some (.int turn),some (.ref hd),some (.ref F),o6,none]/\DF hd H G/\Ex K Ab G W Z g pc sh ed en a hd p xs es ss bs ps'/\ps'.length<=ps.length+2/\∃us,G F=some (.lst us)/\Reps K G us (De es bs)) ?_ fun key=>?_;rotate_left
   . obtain⟨vs,h1,h2⟩:=id x2.lh;have hq:=Bn _ _ h1;have vl:vs.length=xs.length:=by have:=h2.length;simpa using this
     refine⟨_,rfl,a,vs,rfl,.inl (.of hq),_,_,rfl,rfl,_,rfl,?_⟩;by_cases hz:vs.length=0
     . refine Da (by simp[hz]) ?_;exact key _ _ ⟨ps2,_,rfl,xX,x2,by omega,UM,eF2,rF2⟩
     refine Mc (by simp;omega) ?_;have q0:=Int.emod_nonneg turn (show(vs.length:Int)≠0 by omega);have q1:=Int.emod_lt_of_pos turn (show(0:Int)<(vs.length:Int) by omega);obtain⟨i,hi⟩:=Int.eq_ofNat_of_zero_le q0;have hil:i<xs.length:=by omega
     have hs:ss[i]?=some (ss.getD i []):=Px (by rw[x.gr.at_.gw.ls];exact hil);obtain⟨dx2,fs2,hg2,_,_,_,_,_,lm2⟩:=x2.gr.at_.ob;refine Ar (fun σ' G=>∃(D:Addr),σ'=[some (.ref g),some (.ref a),some (.int p),some (.int turn),some (.ref hd),some (.ref F),some (.ref D),none]/\Same H2 G/\H2 D=none/\G D=some (.dK (cK (ss.getD i [])))) ?_ fun ES=>?_;rotate_left
     . refine⟨_,rfl,g,dx2,fs2,rfl,hg2,lm2.2.2.2.2.1,_,rfl,_,rfl,a,vs,rfl,.inl (.of hq),_,_,rfl,rfl,(by show(0:Int)<(vs.length:Int);omega),?_⟩;exact⟨g,pc,sh,ed,en,p,xs,es,ss,bs,_,i,(by rw[←hi];rfl),x2.gr.at_,hs,fun D H' hD s' eD=>ES _ _ ⟨D,rfl,s',hD,eD⟩⟩
     rintro _ H3 ⟨D,rfl,s3,nD,eD⟩;have x3:=x2.same s3;refine⟨_,rfl,.inl ⟨rfl,_,.of x3.at_⟩,_,rfl,_,rfl,D,_,rfl,.inl eD,fun m hm=>?_⟩;have s4:=Same.new (o:=.dK (cK (ss.getD i []))) hm;have em:upd H3 m (.dK (cK (ss.getD i []))) m=some (.dK (cK (ss.getD i []))):=Ad;generalize upd H3 m (.dK (cK (ss.getD i [])))=H4 at s4 em ⊢;refine⟨Bc (by simp),fun t ht=>?_⟩;have s5:=Same.new (o:=.tup [.ref D,.ref m]) ht;have et:upd H4 t (.tup [.ref D,.ref m]) t=some (.tup [.ref D,.ref m]):=Ad;generalize upd H4 t (.tup [.ref D,.ref m])=H5 at s5 et ⊢;have qK:=s4.trans s5;have x5:=x3.same qK;have there:∀c,W c->H2 c≠none:=fun c w=>(x2.wm c w).there;have pr:T2 K H5 W (.ref t):=⟨t,D,m,rfl,Fx there (s3.free (s4.free ht)) et,.inr ⟨ss.getD i [],(x2.gr.at_.gw.sok i _ hs).1.nd,Fx there nD (qK _ _ eD),Fx there (s3.free hm) (s5 _ _ em)⟩⟩
     refine⟨hd,ps2,_,rfl,rfl,x5.at_,Dg (by omega),?_⟩;refine key _ _ ⟨ps2++[.ref t],_,rfl,(xX.trans (DF.of (s3.trans qK))).trans DF.up,x5.put pr,by simp;omega,?_⟩;exact⟨UM,by rw[Ae nFh];exact(s3.trans qK) _ _ eF2,Reps.t (E8.lst x5.at_) SY (Reps.same (s3.trans qK) rF2)⟩
   rintro _ H3 ⟨ps3,o6,rfl,TN,x3,hp3,us3,eF3,rF3⟩;obtain⟨dx3,fs3,hg3,_,_,_,_,_,lm3⟩:=x3.gr.at_.ob;have LP3:=x3.lh.lt;refine Ar (t:=T8 _ _ _) (fun σ' G=>σ'=[some (.ref g),some (.ref a),some (.int p),some (.int turn),some (.ref hd),some (.ref F),o6,none]/\Same H3 G) ?_ fun key=>?_;rotate_left
   . refine⟨_,rfl,_,_,rfl,rfl,(by show(0:Int)<3;decide),rfl,_,rfl,?_⟩;refine ite2 (fun _=>?_) (fun _=>?_)
     . refine⟨_,rfl,g,dx3,fs3,rfl,hg3,lm3.2.2.2.1,g,pc,sh,ed,en,p,xs,es,ss,bs,rfl,x3.gr.at_,fun l us' H' nl s' el rl=>?_⟩;refine⟨_,rfl,.lst (xs.map tI),.lst (xs.map tI),⟨l,us',rfl,.of el,rl⟩,Rep.same s' LP3,?_,_,rfl,?_⟩
       . have:=Xf xs;show deps (xs.map tI)+1<=8;omega
       . refine Da (by rw[Fy];decide) ?_;exact key _ _ ⟨rfl,s'⟩
     . refine Da (by decide) ?_;exact key _ _ ⟨rfl,Same.refl H3⟩
   rintro _ H4 ⟨rfl,s4⟩;have x4:=x3.same s4;refine Ar (fun σ' G=>∃Du:Addr,σ'=[some (.ref g),some (.ref a),some (.int p),some (.int turn),some (.ref hd),some (.ref F),o6,some (.ref Du)]/\Same H4 G/\Rep K G (.ref Du) (.lst (De es bs))) ?_ fun key=>?_;rotate_left
   . exact⟨_,rfl,_,rfl,_,rfl,g,pc,sh,ed,en,a,p,xs,es,ss,bs,rfl,x4.gr.at_,x4.gr.sht,x4.lh.lt,fun l us' H' nl s' el rl=>key _ _ ⟨l,rfl,s',⟨l,us',rfl,.of el,rl⟩⟩⟩
   rintro _ H5 ⟨Du,rfl,s5,vC⟩;have RP:=s4.trans s5;refine⟨_,rfl,rfl,_,rfl,?_⟩;refine Da (by simp) ?_;refine Cm (fun σ' G=>σ'=[some (.ref g),some (.ref a),some (.int p),some (.int turn),some (.ref hd),some (.ref F),o6,some (.ref Du)]/\H5=G) ?_ fun Hg=>Hg _ _ ⟨rfl,rfl⟩;rintro _ _ ⟨rfl,rfl⟩;have x5:=x4.same s5;obtain⟨dx5,fs5,zN,_,_,_,_,_,lm5⟩:=x5.gr.at_.ob;refine Ar (t:=T8 _ _ _) (fun σ' G=>∃F':Addr,σ'=[some (.ref g),some (.ref a),some (.int p),some (.int turn),some (.ref hd),some (.ref F'),o6,some (.ref Du)]/\Same H5 G/\Rep K G (.ref F') (.lst (De es bs))) ?_ fun key=>?_;rotate_left
   . refine⟨_,rfl,_,_,rfl,rfl,(by show(0:Int)<4;decide),_,_,rfl,rfl,_,rfl,?_⟩;refine ite2 (fun _=>?_) (fun _=>?_)
     . exact⟨_,rfl,g,dx5,fs5,rfl,zN,lm5.2.2.2.2.2.1,g,pc,sh,ed,en,p,xs,es,ss,bs,rfl,x5.gr.at_,fun l us' H' nl s' el rl=>key _ _ ⟨l,rfl,s',⟨l,us',rfl,.of el,rl⟩⟩⟩
     . exact key _ _ ⟨F,rfl,Same.refl H5,⟨F,us3,rfl,.of (RP _ _ eF3),Reps.same RP rF3⟩⟩
   rintro _ H6 ⟨F',rfl,s6,rF'⟩;refine⟨_,rfl,_,rfl,F',Du,es,bs,rfl,rF',Rep.same s6 vC,fun H7 s7=>⟨_,rfl,?_⟩⟩;refine Mc rfl ?_;have x7:=x5.same (s6.trans s7);refine⟨_,rfl,_,rfl,_,rfl,_,rfl,g,pc,sh,ed,en,a,Du,turn,p,xs,es,ss,bs,rfl,x7.gr.at_,x7.lh.lt,Rep.same (s6.trans s7) vC,fun H8 s8=>?_⟩;exact k ps3 H8 (TN.trans (DF.of ((RP.trans (s6.trans s7)).trans s8))) (x7.same s8) hp3
abbrev Gv:Stmt:=top 53
theorem O8:FnScope ["_law_growth","_law_pieces","_law_prime_here","_law_thing","_law_found","_law_due"] ["_law_growth","_law_pieces","_law_prime_here","_law_thing"] (Ai Gv):=A7
theorem ED{f:Addr}{fd:FuncData}(F:Fo K "_law_grown" "_law_grown" Gv f fd)(T:Ga K mg Al Am Ak Ab)(Ds:J9 P w K mg base Ab "grow" ["self","thing"] 5 (Ki K Ab))(Ee:Has P w K mg base "_law_pairs_due" ["_law_growth","_law_pieces","_law_prime_here"] 4 (Uz K Ab))(Br:Has P w K mg base "_law_whole" ["_law_found"] 1 (D0 K)):Bj P w K mg base Er 6 f fd ["_law_growth","_law_pieces","_law_prime_here","_law_thing"] (Rq K Ab):=by
 refine F.ok O8 (fun vs H Q E h=>?_) (fun Cl A outer s H vs Q E hr h=>?_)
 . obtain⟨g,pc,sh,ed,en,a,W,Z,v,p,xs,q,es,ss,bs,rfl,x,hW,hM,hA,hv,hf,hlt,k⟩:=h;rfl
 . obtain⟨g,pc,sh,ed,en,a,W,Z,v,p,xs,q,es,ss,bs,rfl,x,hW,hM,hA,hv,hf,hlt,k⟩:=h;have Lu:=hr.u8
   refine⟨_,(Ag (Av (i:=4) O8.nd (Ju (pv 0) T.cl_Growth Ds hr (Aa (pv 3) Af)))
    (Ag (Av (i:=5) O8.nd (Ao Ee hr (Aa (pv 0) (Aa (A6 (Sm (K:=K)) (pv 1) (Eg (Aa (pv 3) Af))) (Aa (pv 2) Af)))))
    (Ag (Ba (As Pc (pv 5) Cu (Aw _)) (Ah (At Cc)) Az)
    (Ag (Ba (As Pc (pv 4) Cu (Aw _)) (Ah (At (Ec (gE (K:=K) Lu) (By (Aa (Aq (An (K:=K)) T.n_len boot_len (Aa (pv 1) Af)) (Aa Cu Af))) (pv 5) rfl))) Az)
    (Ah (At (Ix (Ao Br hr (Aa (pv 4) Af)) (Hc (Ec (gE (K:=K) Lu) (By (Aa (pv 4) (Aa (Aq (An (K:=K)) T.n_len boot_len (Aa (pv 1) Af)) Af))) (pv 5) rfl))))))))),?_⟩
   obtain⟨dx,fs,hg,l1,l2,l3,l4,l5,lm⟩:=x.at_.ob;refine Ar (fun σ' G=>∃(r:V) (me ms bs':Ms),σ'=[some (.ref g),some (.ref a),some (.int p),some v,some r,none]/\Hz pc sh ed en H G/\Bl K Ab G Z g pc sh ed en p (xs++[q]) (es++[me]) (ss++[ms]) bs'/\uD me r) ?_ fun key=>?_;rotate_left
   . exact⟨_,rfl,g,dx,fs,rfl,hg,lm.1,_,rfl,g,pc,sh,ed,en,Z,v,p,xs,q,es,ss,bs,rfl,x,hv,hf,hlt,fun r me ms bs' G fr x1 an=>key _ _ ⟨r,me,ms,bs',rfl,fr,x1,an⟩⟩
   rintro _ H1 ⟨r,me,ms,bs',rfl,fr,x1,an⟩;have fin:=k (es++[me]) (ss++[ms]) bs';have zX:=LH.fr x.at_ fr hW hA;have oG:TI K H1 v q:=Rep.t (fr.t x.at_) (aI q) hv;obtain⟨us,h1,h2⟩:=id zX;have hq1:=Bn _ _ h1;have DG:us.length=xs.length:=by have:=h2.length;simpa using this
   have hel:=x.at_.gw.le;refine Ar (fun σ' G=>∃(Du:Addr),σ'=[some (.ref g),some (.ref a),some (.int p),some v,some r,some (.ref Du)]/\Same H1 G/\Rep K G (.ref Du) (.lst (De (es++[me]) bs'))) ?_ fun key=>?_;rotate_left
   . refine⟨_,rfl,_,rfl,_,rfl,Bc (by simp),fun l hl=>⟨a,l,us,[v],rfl,rfl,?_,.of Ad,Bc (by simp;omega),fun l2 hl2=>?_⟩⟩
     . exact .of (Same.new hl _ _ hq1)
     have s2:=Same.new (o:=.lst [v]) hl;generalize upd H1 l (.lst [v])=G1 at s2 hl2 ⊢;have s3:=Same.new (o:=.lst (us++[v])) hl2;have e3:upd G1 l2 (.lst (us++[v])) l2=some (.lst (us++[v])):=Ad;generalize upd G1 l2 (.lst (us++[v]))=G2 at s3 e3 ⊢;have xD:=s2.trans s3;have hL:LT K G2 (.ref l2) (xs++[q]):=⟨l2,_,rfl,.of e3,by rw[List.map_append];exact Reps.append (Reps.same xD h2) ⟨_,_,rfl,Rep.same xD oG,rfl⟩⟩
     exact⟨_,rfl,g,pc,sh,ed,en,l2,p,xs++[q],es++[me],ss++[ms],bs',rfl,x1.at_.same xD,x1.sht,hL,fun d us' H' nd' s' tQ rd=>key _ _ ⟨d,rfl,xD.trans s',⟨d,us',rfl,.of tQ,rd⟩⟩⟩
   rintro _ G ⟨Du,rfl,g1,vC⟩;have hqG:=g1 _ _ hq1
   have tE:deps (De (es++[me]) bs')+1<=8:=by
    have:=Pb bs' (Bf (es++[me]) (es++[me]).length);show deps ((Bf (es++[me]) (es++[me]).length).map (B7 bs'))+1<=8;omega
   have yes:∀(j:Nat) (d:L2.D),j∈Bf (es++[me]) (es++[me]).length->d=B7 bs' j->((De (es++[me]) bs').any fun e=>eqD e d)=true:=fun j d hj e=>by
    subst e;exact List.any_eq_true.mpr ⟨B7 bs' j,List.mem_map.mpr ⟨j,hj,rfl⟩,Fy _⟩
   refine⟨_,rfl,rfl,_,rfl,?_⟩;refine Da (by simp) ?_;refine Cm (fun σ' G'=>σ'=[some (.ref g),some (.ref a),some (.int p),some v,some r,some (.ref Du)]/\G=G') ?_ fun Hg=>Hg _ _ ⟨rfl,rfl⟩;rintro _ _ ⟨rfl,rfl⟩;refine⟨_,rfl,rfl,_,rfl,?_⟩;rcases an with⟨rfl,rfl⟩|⟨b,tb,rfl⟩
   . refine Mc (by simp) ?_;refine⟨_,rfl,a,us,rfl,.inl (.of hqG),Bc (by simp),fun t ht=>?_⟩;have s4:=Same.new (o:=.tup [.int (us.length:Int),.non]) ht;refine⟨_,rfl,.tup [.int (us.length:Int),.non],_,⟨t,_,rfl,.of Ad,⟨_,_,rfl,rfl,⟨_,_,rfl,rfl,rfl⟩⟩⟩,.inl (Rep.same s4 vC),tE,?_⟩;have hmem:us.length∈Bf (es++[[]]) (es++[[]]).length:=J7.mpr ⟨by simp;omega,by rw[DG,←hel,List.getD_eq_getElem?_getD];simp⟩
     have hd:L2.D.tup [.int (us.length:Int),.non]=B7 bs' us.length:=by
      unfold B7 Us;rw[DG,mD x1.at_.gw]
     rw[if_neg (by decide),yes us.length _ hmem hd];exact fin _ (fr.trans (Hz.of (g1.trans s4))) (x1.same (g1.trans s4))
   . refine Da (by simp) ?_;have zK:(es++[me])[es.length]?=some me:=by simp
     obtain⟨b0,b1,_⟩:=(x1.at_.gw.eok es.length me zK).2 b tb.mem;have gG:=NX x1.at_.gw x1.sht x1.at_.pr.1 zK tb;have hlk:lookI bs' b=some (es.length:Int):=(x1.at_.gw.bls b _).mpr ⟨es.length,me,rfl,zK,tb⟩;refine⟨_,rfl,_,.int b,rfl,rfl,_,rfl,?_⟩;refine Mc (by simp[Cw,U7]) ?_;refine⟨_,rfl,_,rfl,a,us,rfl,.inl (.of hqG),Bc (by simp),fun t ht=>?_⟩;have s4:=Same.new (o:=.tup [.int b,.int (us.length:Int)]) ht;refine⟨_,rfl,.tup [.int b,.int (us.length:Int)],_,⟨t,_,rfl,.of Ad,⟨_,_,rfl,rfl,⟨_,_,rfl,rfl,rfl⟩⟩⟩,.inl (Rep.same s4 vC),tE,?_⟩;have hmem:b.toNat∈Bf (es++[me]) (es++[me]).length:=J7.mpr ⟨(List.getElem?_eq_some_iff.mp gG).1,MY gG⟩
     have hd:L2.D.tup [.int b,.int (us.length:Int)]=B7 bs' b.toNat:=by
      unfold B7 Us;rw[show((b.toNat:Nat):Int)=b by omega,hlk,DG,hel]
     rw[if_neg (by decide),yes _ _ hmem hd];exact fin _ (fr.trans (Hz.of (g1.trans s4))) (x1.same (g1.trans s4))
abbrev Et:Stmt:=top 54
theorem Dd:FnScope ["_law_growth","_law_thing","_law_told","_law_place","e"] ["_law_growth","_law_thing"] (Ai Et):=A7
theorem y3{f:Addr}{fd:FuncData}(F:Fo K "_law_refused" "_law_refused" Et f fd)(T:Ga K mg Al Am Ak Ab)(E2:CU P w K mg base Ab "grow" ["self","thing"] 5 (spZ_grow K Ab Ak Am)):Bj P w K mg base Er 6 f fd ["_law_growth","_law_thing"] (Mj K Ab):=by
 refine F.ok Dd (fun vs H Q E h=>?_) (fun Cl A outer s H vs Q E hr h=>?_)
 . obtain⟨g,pc,sh,ed,en,Z,v,e,p,xs,es,ss,bs,rfl,x,hv,qV,k⟩:=h;rfl
 . obtain⟨g,pc,sh,ed,en,Z,v,e,p,xs,es,ss,bs,rfl,x,hv,qV,k⟩:=h
   refine⟨_,(Ag (Av (i:=2) Dd.nd Aj)
    (Ag (Av (i:=3) Dd.nd Cu)
    (Ag (RQ (fun _ _=>(Ah (Ck (LL cF (pv 0) T.cl_Growth E2 hr (Aa (pv 1) Af)))))
    (VD (i:=4) Dd.nd (by rfl) (by rfl) (by rfl) T.m_NoPiece T.k_NoPiece (fun _=>(Ag (Av (i:=2) Dd.nd Aj)
    (Ah (Av (i:=3) Dd.nd (lN (K:=K) (pv 4))))))
    (oZ (by rfl) T.m_NoShape T.k_NoShape (fun _=>(Ah (Av (i:=2) Dd.nd Aj)))
    OY)))
    (Ah (At (By (Aa (pv 2) (Aa (pv 3) Af)))))))),?_⟩
   obtain⟨dx,fs,hg,l1,l2,l3,l4,l5,lm⟩:=x.at_.ob;have n40:=x.at_.gw.n40;refine P4 [some (.ref g),some v,some (.int 0),none,none] H (fun _ h=>h) ?_;refine P4 [some (.ref g),some v,some (.int 0),some .non,none] H (fun _ h=>h) ?_;refine Ar (fun σ' H'=>∃(w1 w2:V) (o4:Option V),σ'=[some (.ref g),some v,some w1,some w2,o4]/\Same H H'/\[w1,w2]=(if E7 xs e=true then [.int 2,.non] else [.int 1,.int (xs.length:Int)])) ?_ fun key=>?_;rotate_left
   . refine⟨_,rfl,g,dx,fs,rfl,hg,lm.1,_,rfl,g,pc,sh,ed,en,Z,v,e,p,xs,es,ss,bs,rfl,x,hv,fun hf d H1 s1 hd=>?_,fun hf _ H1 s1=>?_,fun q eq hf hlt=>absurd (qV hf) (by omega)⟩
     . refine⟨Ak,true,rfl,T.s_NoPiece_NoPiece,?_⟩;refine Mc rfl fun y hy=>?_;have s2:=Same.new (o:=excX y (.ref Ak) (some d)) hy;have hyy:upd H1 y (excX y (.ref Ak) (some d)) y=some (excX y (.ref Ak) (some d)):=Ad;have zO:=s2 _ _ hd;generalize upd H1 y (excX y (.ref Ak) (some d))=H2 at s2 hyy zO ⊢;exact⟨_,rfl,y,Ak,d,_,_,rfl,hyy,T.x_NoPiece,T.ea_NoPiece_place,zO,rfl,key _ _ ⟨_,_,_,rfl,s1.trans s2,by rw[if_neg hf]⟩⟩
     . refine⟨Am,false,rfl,T.s_NoShape_NoPiece,?_⟩;refine Da (by decide) ?_;refine⟨Am,true,rfl,T.s_NoShape_NoShape,?_⟩;refine Mc rfl ?_;exact key _ _ ⟨_,_,_,rfl,s1,by rw[if_pos hf]⟩
   rintro _ H1 ⟨w1,w2,o4,rfl,s1,hw⟩;refine⟨_,rfl,_,rfl,Bc (by simp),fun t ht=>?_⟩;exact k t _ (s1.trans (Same.new ht)) (by rw[Ad,hw])
abbrev Gw:Stmt:=top 58
theorem Vu:FnScope ["_law_growth","_law_many","_law_k"] ["_law_growth","_law_many"] (Ai Gw):=A7
theorem eE{f:Addr}{fd:FuncData}(F:Fo K "_law_begun" "_law_begun" Gw f fd)(T:Ga K mg Al Am Ak Ab)(Ds:J9 P w K mg base Ab "grow" ["self","thing"] 5 (Ki K Ab)):Bj P w K mg base Er 6 f fd ["_law_growth","_law_many"] (Rr K Ab):=by
 refine F.ok Vu (fun vs H Q E h=>?_) (fun Cl A outer s H vs Q E hr h=>?_)
 . obtain⟨g,pc,sh,ed,en,Z,m,p,rfl,hm,x0,k⟩:=h;rfl
 . obtain⟨g,pc,sh,ed,en,Z,m,p,rfl,hm,x0,k⟩:=h
   refine⟨_,(Ag (C5 PassesOwn.never rfl (Ch (by rfl) T.n_range (Aa (pv 1) Af)) (Ax (i:=2) Vu.nd) (Ah (Ck (Ju (pv 0) T.cl_Growth Ds hr (Aa (By Af) Af)))))
    (Ah (At (Eb (N':=["_law_k"]) (cap:=[none]) (by rfl) (by kernel_rfl) (Ch (by rfl) T.n_range (Aa (pv 1) Af)) (fun _ _ _ _=>(Ax (i:=0) SI)) (fun _ _ _ _=>Ih) (fun _ _ _ _=>(By Af)))))),?_⟩
   refine Ar (t:=DJ _ _ _) (fun σ' G=>∃(o2:Option V) (es ss:List Ms) (bs:Ms),σ'=[some (.ref g),some (.int (m:Int)),o2]/\Hz pc sh ed en H G/\Bl K Ab G Z g pc sh ed en p (List.replicate m []) es ss bs) ?_ fun key=>?_;rotate_left
   . refine⟨_,rfl,_,rfl,by omega,by omega,?_⟩
     refine Dv (lo:=0) (n:=((m:Nat):Int).toNat) (fun i σ' G=>∃(o2:Option V) (es ss:List Ms) (bs:Ms),σ'=[some (.ref g),some (.int (m:Int)),o2]/\Hz pc sh ed en H G/\Bl K Ab G Z g pc sh ed en p (List.replicate i []) es ss bs)
      ⟨none,[],[],[],rfl,Hz.of (Same.refl H),x0⟩ ?_ ?_
     . rintro i σ' G hi ⟨o2,es,ss,bs,rfl,fr,x⟩;obtain⟨dx,fs,hg,l1,l2,l3,l4,l5,lm⟩:=x.at_.ob;refine⟨_,rfl,g,dx,fs,rfl,hg,lm.1,Nat.zero_le _,fun t ht=>?_⟩;have st:=Same.new (o:=.tup []) ht;have et:upd G t (.tup []) t=some (.tup []):=Ad;generalize upd G t (.tup [])=G1 at st et ⊢;refine⟨g,pc,sh,ed,en,Z,.ref t,p,List.replicate i [],[],es,ss,bs,rfl,x.same st,TI.mk (.of et),nA,by rw[List.length_replicate];omega,fun r me ms bs' G2 xX x2 an=>?_⟩;refine⟨_,es++[me],ss++[ms],bs',rfl,(fr.trans (Hz.of st)).trans xX,?_⟩;rw[List.replicate_succ'];exact x2
     . rintro σ' G ⟨o2,es,ss,bs,rfl,fr,x⟩;rw[Int.toNat_natCast]at x;exact key _ _ ⟨o2,es,ss,bs,rfl,fr,x⟩
   rintro _ H1 ⟨o2,es,ss,bs,rfl,fr,x⟩;refine⟨_,rfl,_,rfl,by omega,by omega,fun D hD=>?_⟩
   have mW:H D=none:=by
    cases e:H D with
    | none=>rfl
    | some o =>
      by_cases w:W4 pc sh ed en D
      . exact absurd hD (x.at_.mut D w).there
      . rw[fr _ _ w e]at hD;cases hD
   refine Tt (fun i ys τ G=>Same H1 G/\G D=some (.lst ys)/\Reps K G ys ((List.replicate i ([]:List Int)).map tI)/\ys.length=i/\∃o,τ=[o])
    ⟨Same.new hD,Ad,rfl,rfl,none,rfl⟩ ?_ ?_
   . rintro i ys τ G hi ⟨g1,Hy,ry,hyl,o,rfl⟩;refine⟨Nat.zero_le _,fun t ht=>?_⟩;have st:=Same.new (o:=.tup []) ht;have et:upd G t (.tup []) t=some (.tup []):=Ad;generalize upd G t (.tup [])=G1 at st et ⊢;have L9:=st _ _ Hy;exact⟨L9,Dg (by omega),(g1.trans st).turn hD,Ad,Reps.t (E8.lst L9) (Fw _) (v7 (Reps.same st ry) et),by simp[hyl],_,rfl⟩
   . rintro ys τ G ⟨g1,Hy,ry,hyl,o,rfl⟩;rw[Int.toNat_natCast]at ry;exact k D ys es ss bs G (fr.trans (Hz.of g1)) mW Hy ry (x.same g1)
abbrev Jr:Stmt:=top 59
theorem Nt:FnScope ["_law_growth","_law_pieces","_law_prime_here","_law_cell","_law_most","_law_held","_law_way","_law_piece"] ["_law_growth","_law_pieces","_law_prime_here","_law_cell","_law_most","_law_held"] (Ai Jr):=A7
theorem IJ{f:Addr}{fd:FuncData}(F:Fo K "_law_deed" "_law_deed" Jr f fd)(T:Ga K mg Al Am Ak Ab)(AK:Has P w K mg base "_law_next" ["_law_pieces","_law_cell"] 3 (Rn K))(W0:Has P w K mg base "_law_taken" ["_law_growth","_law_pieces","_law_many"] 2 (Ro K Ab))(aL:Has P w K mg base "_law_fits" ["_law_pieces","_law_thing"] 2 (Rk K))(K3:Has P w K mg base "_law_is_misfit" ["_law_told","_law_many"] 2 (Kd K))(N4:Has P w K mg base "_law_look" ["_law_growth","_law_pieces","_law_prime_here","_law_turn","_law_held"] 6 (P6 K Ab))(W1:Has P w K mg base "_law_grown" ["_law_growth","_law_pieces","_law_prime_here","_law_thing"] 6 (Rq K Ab))(K1:Has P w K mg base "_law_refused" ["_law_growth","_law_thing"] 6 (Mj K Ab))(Sz:Has P w K mg base "_law_misfit" ["_law_pieces","_law_cell"] 1 (O5 K)):Bj P w K mg base Er 7 f fd ["_law_growth","_law_pieces","_law_prime_here","_law_cell","_law_most","_law_held"] (Vj K Ab):=by
 refine F.ok Nt (fun vs H Q E h=>?_) (fun Cl A outer s H vs Q E hr h=>?_)
 . obtain⟨g,pc,sh,ed,en,a,hd,W,Z,cell,most,p,xs,es,ss,bs,ps,rfl,ZK,x,hpl,k⟩:=h;rfl
 . obtain⟨g,pc,sh,ed,en,a,hd,W,Z,cell,most,p,xs,es,ss,bs,ps,rfl,ZK,x,hpl,k⟩:=h
   refine⟨_,(Ag (Av (i:=6) Nt.nd (A6 Bs (pv 3) Aj))
    (Ag (Av (i:=3) Nt.nd (A6 Ik (pv 3) Aj))
    (Ag (Ba (As Ij (pv 6) Aj (Aw _)) (Ah (At (Ao W0 hr (Aa (pv 0) (Aa (pv 1) (Aa (A6 F2 Aj (A6 Bs (pv 3) Aj)) Af)))))) Az)
    (Ag (Ba (PW.pt (Kl (As Cq (pv 6) Aj (Aw _)) (Ig (B3 (B0 (Ao K3 hr (Aa (Ao K1 hr (Aa (pv 0) (Aa (Ao Sz hr (Aa (pv 1) (Aa (pv 3) Af))) Af))) (Aa (Aq (An (K:=K)) T.n_len boot_len (Aa (pv 1) Af)) Af)))))))) (Ah (At Cu)) Az)
    (Ag (Ba (As Ij (pv 6) Aj (Aw _)) (Ag (Ba (B3 (B0 (Ao N4 hr (Aa (pv 0) (Aa (pv 1) (Aa (pv 2) (Aa (pv 3) (Aa (pv 5) Af)))))))) (Ah (At Cu)) Az)
    (Ah (At (pv 1)))) Az)
    (Ag (Av (i:=7) Nt.nd (Ao AK hr (Aa (pv 1) (Aa (pv 3) Af))))
    (Ag (Ba (B3 (B0 (Ao aL hr (Aa (pv 1) (Aa (pv 7) Af))))) (Ah (At (pv 1))) Az)
    (Ag (Ba (As Ij (Aq (An (K:=K)) T.n_len boot_len (Aa (pv 1) Af)) (pv 4) (Aw _)) (Ag (Ba (B3 (B0 (Ao W1 hr (Aa (pv 0) (Aa (pv 1) (Aa (pv 2) (Aa (pv 7) Af))))))) (Ah (At Cu)) Az)
    (Ah (At (A6 (Sm (K:=K)) (pv 1) (Eg (Aa (pv 7) Af)))))) Az)
    (Ag (Ba (PW.pt (Kl (As Cq (Aq (An (K:=K)) T.n_len boot_len (Aa (pv 1) Af)) Aj (Aw _)) (Ig (As Lo (A5 (Be (K:=K)) (Ao K1 hr (Aa (pv 0) (Aa (pv 7) Af))) Aj (fun _ _=>rfl)) Aj (Aw _))))) (Ah (At Cu)) Az)
    (Ah (At (pv 1)))))))))))),?_⟩
   have n40:=x.gr.at_.gw.n40;have pW:=Rz x.gr.at_.gw.shp;have stay:∀G,Same H G->Q (.ref a) G:=fun G g1=>k a xs es ss bs ps G (fun c o _ _ e=>g1 c o e) (x.same g1) (by omega);obtain⟨us,h1,h2⟩:=id x.lh;have hq:=Bn _ _ h1;have DG:us.length=xs.length:=by have:=h2.length;simpa using this
   refine Ar (fun σ' G=>∃wy:Int,σ'=[some (.ref g),some (.ref a),some (.int p),some (.int cell),some (.int most),some (.ref hd),some (.int wy),none]/\H=G) ?_ fun key=>?_;rotate_left
   . exact⟨_,rfl,_,_,rfl,rfl,(by show(0:Int)<9;decide),key _ _ ⟨_,rfl,rfl⟩⟩
   rintro _ _ ⟨wy,rfl,rfl⟩;refine Ar (fun σ' G=>∃cl:Int,σ'=[some (.ref g),some (.ref a),some (.int p),some (.int cl),some (.int most),some (.ref hd),some (.int wy),none]/\H=G) ?_ fun key=>?_;rotate_left
   . exact⟨_,rfl,_,_,rfl,rfl,⟨by decide,by decide⟩,key _ _ ⟨_,rfl,rfl⟩⟩
   rintro _ _ ⟨cl,rfl,rfl⟩;refine⟨_,rfl,_,_,rfl,rfl,_,rfl,?_⟩;refine ite2 (fun _=>?_) (fun _=>?_)
   . have q0:=Int.emod_nonneg cl (show(3:Int)≠0 by decide);have q1:=Int.emod_lt_of_pos cl (show(0:Int)<3 by decide);exact⟨_,rfl,_,rfl,_,rfl,_,_,rfl,rfl,(by show(0:Int)<3;decide),_,_,rfl,rfl,g,pc,sh,ed,en,a,W,Z,_,p,xs,es,ss,bs,rfl,by omega,by omega,x.gr,x.w4,x.wm,x.lh,fun a' xs' es' ss' bs' H' fr x' lh=>k a' xs' es' ss' bs' ps H' (fun c o n _ e=>fr c o n e) (x.deed fr x' lh) (by omega)⟩
   refine Cm (fun σ' G=>σ'=[some (.ref g),some (.ref a),some (.int p),some (.int cl),some (.int most),some (.ref hd),some (.int wy),none]/\H=G) ?_ fun Hg=>Hg _ _ ⟨rfl,rfl⟩;rintro _ _ ⟨rfl,rfl⟩;refine Ar (t:=T8 _ _ _) (fun σ' G=>σ'=[some (.ref g),some (.ref a),some (.int p),some (.int cl),some (.int most),some (.ref hd),some (.int wy),none]/\Same H G) ?_ fun key=>?_;rotate_left
   . refine⟨_,rfl,rfl,_,rfl,?_⟩;refine ite2 (fun _=>?_) (fun _=>?_);rotate_left
     . refine Da (by decide) ?_;exact key _ _ ⟨rfl,Same.refl H⟩
     refine⟨_,rfl,_,rfl,_,rfl,a,cl,xs,rfl,x.lh.lt,fun v e G g1 hv hnf=>?_⟩;have xG:=x.same g1;refine⟨g,pc,sh,ed,en,Z,v,e,p,xs,es,ss,bs,rfl,xG.gr,hv,fun z=>absurd z hnf,fun t G2 g2 et=>?_⟩;rw[if_neg hnf]at et;refine⟨_,rfl,a,us,rfl,.inl (.of (g2 _ _ (g1 _ _ hq))),t,_,rfl,?_,_,rfl,?_⟩
     . rw[DG];exact .of et
     refine Da (by decide) ?_;exact key _ _ ⟨rfl,g1.trans g2⟩
   rintro _ H1 ⟨rfl,s1⟩;have x1:=x.same s1;refine⟨_,rfl,_,_,rfl,rfl,_,rfl,?_⟩;refine ite2 (fun _=>?_) (fun _=>?_)
   . refine⟨_,rfl,_,rfl,_,rfl,_,rfl,_,rfl,g,pc,sh,ed,en,a,hd,W,Z,_,p,xs,es,ss,bs,ps,rfl,x1,hpl,fun ps' H' fr x' hl'=>⟨_,rfl,?_⟩⟩;refine Da (by decide) ?_;exact⟨_,rfl,k a xs es ss bs ps' H' (fun c o _ n e=>fr c o n (s1 _ _ e)) x' hl'⟩
   refine Cm (fun σ' G=>σ'=[some (.ref g),some (.ref a),some (.int p),some (.int cl),some (.int most),some (.ref hd),some (.int wy),none]/\H1=G) ?_ fun Hg=>Hg _ _ ⟨rfl,rfl⟩;rintro _ _ ⟨rfl,rfl⟩;refine Ar (fun σ' G=>∃(v:V) (q:List Int),σ'=[some (.ref g),some (.ref a),some (.int p),some (.int cl),some (.int most),some (.ref hd),some (.int wy),some v]/\Same H1 G/\TI K G v q) ?_ fun key=>?_;rotate_left
   . exact⟨_,rfl,_,rfl,a,xs,_,rfl,x1.lh.lt,pW,by omega,fun v q H' s' tv=>key _ _ ⟨v,q,rfl,s',tv⟩⟩
   rintro _ H2 ⟨v,q,rfl,s2,tv⟩;have x2:=x1.same s2;refine Ar (t:=T8 _ _ _) (fun σ' G=>σ'=[some (.ref g),some (.ref a),some (.int p),some (.int cl),some (.int most),some (.ref hd),some (.int wy),some v]/\Same H2 G/\Cj xs (tI q)=true) ?_ fun key=>?_;rotate_left
   . refine⟨_,rfl,_,rfl,a,v,.d (tI q),xs,rfl,x2.lh.lt,pW,by omega,tv,fun H' s'=>⟨_,rfl,?_⟩⟩;by_cases hf:Cj xs (tI q)=true
     . refine Da (by show ¬(!Cj xs (tI q))=true;rw[hf];decide) ?_;exact key _ _ ⟨rfl,s',hf⟩
     . refine Mc (by show(!Cj xs (tI q))=true;simpa using hf) ?_;exact⟨_,rfl,stay _ ((s1.trans s2).trans s')⟩
   rintro _ H3 ⟨rfl,s3,hf⟩;have UZ:=(s1.trans s2).trans s3;have x3:=x.same UZ;have yG:TI K H3 v q:=Rep.same s3 tv;have hq3:=UZ _ _ hq;refine⟨_,rfl,a,us,rfl,.inl (.of hq3),_,rfl,_,_,rfl,rfl,_,rfl,?_⟩;refine ite2 (fun h=>?_) (fun h=>?_)
   . have hlt:xs.length<40:=by
      have:(us.length:Int)<most:=by simpa using h
      omega
     refine⟨_,rfl,_,rfl,_,rfl,_,rfl,g,pc,sh,ed,en,a,W,Z,v,p,xs,q,es,ss,bs,rfl,x3.gr,x3.w4,x3.wm,x3.lh,yG,hf,hlt,fun es' ss' bs' H4 fr x4=>⟨_,rfl,?_⟩⟩;refine Da (by decide) ?_;have lh4:=LH.fr x3.gr.at_ fr x3.w4 x3.lh;have tv4:TI K H4 v q:=Rep.t (fr.t x3.gr.at_) (aI q) yG;obtain⟨xB,h3,h4⟩:=id lh4;have hq4:=Bn _ _ h3;have ul4:xB.length=xs.length:=by have:=h4.length;simpa using this
     have m4:=x4.at_.mutW fr x3.wm;refine⟨_,rfl,_,rfl,Bc (by simp),fun l hl=>⟨a,l,xB,[v],rfl,rfl,?_,.of Ad,Bc (by simp;omega),fun l2 hl2=>?_⟩⟩
     . exact .of (Same.new hl _ _ hq4)
     have s5:=Same.new (o:=.lst [v]) hl;generalize upd H4 l (.lst [v])=H5 at s5 hl2 ⊢;have s6:=s5.trans (Same.new (o:=.lst (xB++[v])) hl2);have lh6:LH K (upd H5 l2 (.lst (xB++[v]))) W l2 (xs++[q]):=LH.new (fun c w=>(m4 c w).same s5) hl2 Ad (by rw[List.map_append];exact Reps.append (Reps.same s6 h4) ⟨_,_,rfl,Rep.same s6 tv4,rfl⟩);exact k l2 _ _ _ _ ps _ (fun c o n _ e=>s6 _ _ (fr c o n (UZ _ _ e))) (x3.deed (fr.trans (Hz.of s6)) (x4.same s6) lh6) (by omega)
   refine Cm (fun σ' G=>σ'=[some (.ref g),some (.ref a),some (.int p),some (.int cl),some (.int most),some (.ref hd),some (.int wy),some v]/\H3=G) ?_ fun Hg=>Hg _ _ ⟨rfl,rfl⟩;rintro _ _ ⟨rfl,rfl⟩;refine⟨_,rfl,a,us,rfl,.inl (.of hq3),rfl,_,rfl,?_⟩;refine ite2 (fun h5=>?_) (fun h5=>?_)
   . have qV:xs.length=40:=by
      have:(us.length:Int)=40:=by simpa using h5
      omega
     refine⟨_,rfl,_,rfl,g,pc,sh,ed,en,Z,v,.d (tI q),p,xs,es,ss,bs,rfl,x3.gr,yG,fun _=>qV,fun t H4 s4 et=>?_⟩;rw[if_pos (show E7 xs (.d (tI q))=true from hf)]at et;refine⟨t,_,_,_,rfl,rfl,.of et,TX _ _,rfl,_,rfl,?_⟩;refine Da (by simp) ?_;exact⟨_,rfl,stay _ (UZ.trans s4)⟩
   . refine Da (by decide) ?_;exact⟨_,rfl,stay _ UZ⟩
abbrev Qa:Stmt:=top 60
theorem E9:FnScope ["_law_script","_law_primes","_law_growths","_law_rows","_law_most","_law_held","_law_cell","_law_at","_law_turn","_law_told","_law_kept"] ["_law_script"] (Ai Qa):=A7
theorem sD{f:Addr}{fd:FuncData}(F:Fo K "law" "law" Qa f fd)(T:Ga K mg Al Am Ak Ab)(Qr:Has P w K mg base "_law_prime" ["_law_cell"] 1 (Mg K))(Wy:rC P w K mg base Ab ["self","prime"] [.int 2] 4 (Ml K Ab))(Nz:uC P w K mg base Ab ["self","prime"] 4 (Ml K Ab))(W2:Has P w K mg base "_law_begun" ["_law_growth","_law_many"] 6 (Rr K Ab))(aM:Has P w K mg base "_law_deed" ["_law_growth","_law_pieces","_law_prime_here","_law_cell","_law_most","_law_held"] 7 (Vj K Ab))(Hm:Has P w K mg base "_law_cell_at" ["_law_script","_law_k"] 1 (Kh K))(N4:Has P w K mg base "_law_look" ["_law_growth","_law_pieces","_law_prime_here","_law_turn","_law_held"] 6 (P6 K Ab)):Bj P w K mg base Er 8 f fd ["_law_script"] (p7 K):=by
 refine F.ok E9 (fun vs H Q E h=>?_) (fun Cl A outer s H vs Q E hr h=>?_)
 . obtain⟨a,ns,rfl,hS,hl,k⟩:=h;rfl
 . obtain⟨a,ns,rfl,hS,hl,k⟩:=h;have Lu:=hr.u8
   refine⟨_,(Ag (Av (i:=1) E9.nd (Eg (Aa (Ao Qr hr (Aa (Ao Hm hr (Aa (pv 0) (Aa Aj Af))) Af)) (Aa (Ao Qr hr (Aa (Ao Hm hr (Aa (pv 0) (Aa Aj Af))) Af)) Af))))
    (Ag (Av (i:=2) E9.nd (Eg (Aa (BN Nz hr (by rfl) T.m_Growth (Aa (A5 (A2 (K:=K)) (pv 1) Aj (fun _ _=>rfl)) Af)) (Aa (BN Nz hr (by rfl) T.m_Growth (Aa (A5 (A2 (K:=K)) (pv 1) Aj (fun _ _=>rfl)) Af)) Af))))
    (Ag (Av (i:=3) E9.nd (Eg (Aa (Eg Af) (Aa (Eg Af) Af))))
    (Ag (Ba (As Cq (A6 Bs (Ao Hm hr (Aa (pv 0) (Aa Aj Af))) Aj) Aj (Aw _)) (Ah (LC (Ao W2 hr (Aa (A5 (A2 (K:=K)) (pv 2) Aj (fun _ _=>rfl)) (Aa Aj Af))) (lK (pv 3) Aj BG))) Az)
    (Ag (Av (i:=4) E9.nd (Eg (Aa (A6 F2 Aj (A6 op_mulX Aj (C7 JW (by rfl) T.n_int boot_intT (Aa (Ec To (Aq (An (K:=K)) T.n_len boot_len (Aa (A5 (A2 (K:=K)) (pv 3) Aj (fun _ _=>rfl)) Af)) Aj (Aw _)) Af)))) (Aa Aj Af))))
    (Ag (Av (i:=5) E9.nd (Eg Af))
    (Ag (C5 PassesOwn.never rfl (Hf (K:=K) (V1 (cA (K:=K)) (pv 0) (U3 Aj) (U3 Aj))) (Ax (i:=6) E9.nd) (Ag (Av (i:=6) E9.nd (A6 Bs (A6 op_mulX (A6 Bs (pv 6) Aj) Aj) Aj))
    (Ag (Av (i:=7) E9.nd (A6 Bs (pv 6) Aj))
    (Ag (LC (Ao aM hr (Aa (A5 (A2 (K:=K)) (pv 2) (pv 7) (fun _ _=>rfl)) (Aa (A5 (A2 (K:=K)) (pv 3) (pv 7) (fun _ _=>rfl)) (Aa (A5 (A2 (K:=K)) (pv 1) (pv 7) (fun _ _=>rfl)) (Aa (A6 Ik (pv 6) Aj) (Aa (A5 (A2 (K:=K)) (pv 4) (pv 7) (fun _ _=>rfl)) (Aa (pv 5) Af))))))) (lK (pv 3) (pv 7) BG))
    (Ah (Ba (As Pc (A5 (A2 (K:=K)) (pv 3) (pv 7) (fun _ _=>rfl)) Cu (Aw _)) (Ah (At Cc)) Az))))))
    (Ag (C5 PassesOwn.never rfl (Ch (by rfl) T.n_range (Aa Aj Af)) (Ax (i:=8) E9.nd) (Ag (Av (i:=7) E9.nd (A6 Bs (pv 8) Aj))
    (Ah (Ba (B3 (B0 (Ao N4 hr (Aa (A5 (A2 (K:=K)) (pv 2) (pv 7) (fun _ _=>rfl)) (Aa (A5 (A2 (K:=K)) (pv 3) (pv 7) (fun _ _=>rfl)) (Aa (A5 (A2 (K:=K)) (pv 1) (pv 7) (fun _ _=>rfl)) (Aa (pv 8) (Aa (pv 5) Af)))))))) (Ah (At Cc)) Az))))
    (Ag (C5 PassesOwn.never rfl (Hf (K:=K) (pv 5)) (El (K:=K) (n:=2) (by rfl) (Bi (Ax (i:=9) E9.nd) (Bi (Ax (i:=10) E9.nd) Ek))) (Ah (Ba (As (op_or (AE (K:=K) Lu) (rZ (n:=8) Lu)) (pv 9) (pv 10) (Aw _)) (Ah (At Cc)) Az)))
    (Ah (At Cc))))))))))),?_⟩
   refine Ar (fun σ' H'=>∃(Ps:Addr) (p0 p1:Int),σ'=[some (.ref a),some (.ref Ps),none,none,none,none,none,none,none,none,none]/\Same H H'/\H' Ps=some (.lst [.int p0,.int p1])/\(D8 p0/\p0<98)/\D8 p1/\p1<98) ?_ fun key=>?_;rotate_left
   . refine⟨_,rfl,a,ns,0,rfl,hS,by decide,hl,_,rfl,fun p0 H1 s1 hp0 h0=>⟨_,rfl,a,ns,1,rfl,s1.seq hS,by decide,hl,_,rfl,fun p1 H2 s2 hp1 h1=>⟨Bc (by simp),fun Ps hPs=>?_⟩⟩⟩;exact key _ _ ⟨Ps,p0,p1,rfl,(s1.trans s2).trans (Same.new hPs),Ad,⟨hp0,h0⟩,hp1,h1⟩
   rintro _ H1 ⟨Ps,p0,p1,rfl,s1,QB,hp0,hp1⟩;have hS1:=s1.seq hS;refine Ar (fun σ' H'=>∃(Gs g0 c0 h0 e0 n0 g1 c1 h1 e1 n1:Addr),σ'=[some (.ref a),some (.ref Ps),some (.ref Gs),none,none,none,none,none,none,none,none]/\Same H1 H'/\H' Gs=some (.lst [.ref g0,.ref g1])/\Bt K Ab H' g0 c0 h0 e0 n0 p0 [] [] [] []/\Bt K Ab H' g1 c1 h1 e1 n1 p1 [] [] [] []/\(∀c,W4 c0 h0 e0 n0 c->H1 c=none/\c≠Gs)/\(∀c,W4 c1 h1 e1 n1 c->H1 c=none/\c≠Gs)/\∀c,W4 c0 h0 e0 n0 c->W4 c1 h1 e1 n1 c->False) ?_ fun key=>?_;rotate_left
   . refine⟨_,rfl,Ps,_,_,_,rfl,rfl,.of QB,rfl,?_⟩;intro g0 dx ng ndx As1;have sN:Same H1 (upd (upd H1 dx (.own g0)) g0 (.ins Ab dx [])):=(Same.new ndx).turn ng;have eg:upd (upd H1 dx (.own g0)) g0 (.ins Ab dx []) g0=some (.ins Ab dx []):=Ad;generalize upd (upd H1 dx (.own g0)) g0 (.ins Ab dx [])=H2 at sN eg ⊢;refine⟨g0,dx,p0,rfl,eg,hp0.1,hp0.2,fun c0 h0 e0 n0 H3 nc nh ne nn sx x0=>⟨rfl,?_⟩⟩;have KZ:Same H1 H3:=fun c o e=>sx c o (Ap e ng) (sN _ _ e)
     have bX:∀c,W4 c0 h0 e0 n0 c->H1 c=none:=by
      rintro c (rfl | rfl | rfl | rfl)
      . exact sN.free nc
      . exact sN.free nh
      . exact sN.free ne
      . exact sN.free nn
     refine⟨_,rfl,Ps,_,_,_,rfl,rfl,.of (KZ _ _ QB),rfl,?_⟩;intro g1 qX ng1 YX Ah6;have UE:Same H3 (upd (upd H3 qX (.own g1)) g1 (.ins Ab qX [])):=(Same.new YX).turn ng1;have tP:upd (upd H3 qX (.own g1)) g1 (.ins Ab qX []) g1=some (.ins Ab qX []):=Ad;generalize upd (upd H3 qX (.own g1)) g1 (.ins Ab qX [])=H4 at UE tP ⊢;refine⟨g1,qX,p1,rfl,tP,hp1.1,hp1.2,fun c1 h1 e1 n1 H5 nc1 nh1 ne1 nn1 XC x1=>⟨rfl,?_⟩⟩;have qK:Same H3 H5:=fun c o e=>XC c o (Ap e ng1) (UE _ _ e)
     have new1:∀c,W4 c1 h1 e1 n1 c->H3 c=none:=by
      rintro c (rfl | rfl | rfl | rfl)
      . exact UE.free nc1
      . exact UE.free nh1
      . exact UE.free ne1
      . exact UE.free nn1
     have x0':=x0.same qK;refine⟨Bc (by simp),fun Gs wG=>key _ _ ⟨Gs,g0,c0,h0,e0,n0,g1,c1,h1,e1,n1,rfl,(KZ.trans qK).trans (Same.new wG),Ad,x0'.same (Same.new wG),x1.same (Same.new wG),fun c w=>⟨bX c w,fun z=>(x0'.mut c w).there (by rw[z];exact wG)⟩,fun c w=>⟨KZ.free (new1 c w),fun z=>(x1.mut c w).there (by rw[z];exact wG)⟩,fun c w w1=>(x0.mut c w).there (new1 c w1)⟩⟩
   rintro _ H2 ⟨Gs,g0,c0,h0,e0,n0,g1,c1,h1,e1,n1,rfl,s2,eGs,x0,x1,bX,new1,dis⟩;have TQ:=s2 _ _ QB;refine Ar (fun σ' H'=>∃(Rs r0 r1:Addr),σ'=[some (.ref a),some (.ref Ps),some (.ref Gs),some (.ref Rs),none,none,none,none,none,none,none]/\Same H2 H'/\H' Rs=some (.lst [.ref r0,.ref r1])/\H2 Rs=none/\H2 r0=none/\H2 r1=none/\r0≠Rs/\r1≠Rs/\H' r0=some (.lst [])/\H' r1=some (.lst [])) ?_ fun key=>?_;rotate_left
   . refine⟨Bc (by simp),fun r0 hr0=>?_⟩;have t1:=Same.new (o:=.lst []) hr0;have f1:upd H2 r0 (.lst []) r0=some (.lst []):=Ad;generalize upd H2 r0 (.lst [])=G1 at t1 f1 ⊢;refine⟨Bc (by simp),fun r1 hr1=>?_⟩;have t2:=Same.new (o:=.lst []) hr1;have f2:upd G1 r1 (.lst []) r1=some (.lst []):=Ad;generalize upd G1 r1 (.lst [])=G2 at t2 f2 ⊢;refine⟨Bc (by simp),fun Rs xQ=>?_⟩;have t3:=Same.new (o:=.lst [.ref r0,.ref r1]) xQ;exact key _ _ ⟨Rs,r0,r1,rfl,(t1.trans t2).trans t3,Ad,(t1.trans t2).free xQ,hr0,t1.free hr1,Ap (t2 _ _ f1) xQ,Ap f2 xQ,t3 _ _ (t2 _ _ f1),t3 _ _ f2⟩
   rintro _ H3 ⟨Rs,r0,r1,rfl,s3,eRs,oH,nr0,YV,d0,d1,er0,er1⟩;obtain⟨Z,hZ⟩:∃Z:Addr->Prop,Z=fun c=>c=n0\/c=n1:=⟨_,rfl⟩
   have y0:=x0.same s3;have y1:=x1.same s3
   have zin:∀c,Z c->H3 c≠none:=fun c z=>by
    rw[hZ]at z;rcases z with rfl | rfl
    . rw[y0.ens];intro q;cases q
    . rw[y1.ens];intro q;cases q
   have z0:Bl K Ab H3 Z g0 c0 h0 e0 n0 p0 [] [] [] []:=Bl.first y0 (by rw[hZ];exact .inl rfl) zin;have z1:Bl K Ab H3 Z g1 c1 h1 e1 n1 p1 [] [] [] []:=Bl.first y1 (by rw[hZ];exact .inr rfl) zin;have uG:∀c,H2 c=none->¬W4 c0 h0 e0 n0 c:=fun c e w=>(x0.mut c w).there e;have XE:∀c,H2 c=none->¬W4 c1 h1 e1 n1 c:=fun c e w=>(x1.mut c w).there e;have WN:=s3 _ _ eGs;have hS3:=(s2.trans s3).seq hS1;refine Ar (t:=T8 _ _ _) (fun σ' G=>∃(r:Addr) (us:List V) (xs:LLInt) (es ss:List Ms) (bs:Ms),σ'=[some (.ref a),some (.ref Ps),some (.ref Gs),some (.ref Rs),none,none,none,none,none,none,none]/\(∀c o,¬W4 c0 h0 e0 n0 c->c≠Rs->H3 c=some o->G c=some o)/\G Rs=some (.lst [.ref r,.ref r1])/\H2 r=none/\r≠Rs/\G r=some (.lst us)/\Reps K G us (xs.map tI)/\Bl K Ab G Z g0 c0 h0 e0 n0 p0 xs es ss bs/\Bl K Ab G Z g1 c1 h1 e1 n1 p1 [] [] [] []) ?_ fun key=>?_;rotate_left
   . refine⟨_,rfl,a,ns,1,rfl,hS3,by decide,hl,_,_,rfl,rfl,(by show(0:Int)<8;decide),rfl,_,rfl,?_⟩;refine ite2 (fun _=>?_) (fun _=>?_);rotate_left
     . exact key _ _ ⟨r0,[],[],[],[],[],rfl,fun c o _ _ e=>e,eRs,nr0,d0,er0,rfl,z0,z1⟩
     refine⟨_,rfl,Gs,_,_,_,rfl,rfl,.of WN,rfl,g0,c0,h0,e0,n0,Z,36,p0,rfl,by decide,z0,fun l us es ss bs H4 fr nl el rl x'=>?_⟩;have Zj:=fr _ _ (uG _ oH) eRs;refine⟨_,rfl,Rs,_,0,0,rfl,rfl,Zj,rfl,?_⟩;have lRs:l≠Rs:=fun z=>by rw[z,eRs]at nl;cases nl
     have b0:=uG _ oH;have b1:=XE _ oH;refine key _ _ ⟨l,us,_,es,ss,bs,rfl,fun c o n n' e=>by rw[Ae n'];exact fr c o n e,Ad,s3.free nl,lRs,by rw[Ae lRs];exact el,Reps.t (E8.lst Zj) (Fw _) rl,x'.other Zj (fun z=>b0 (.inl z)) (fun z=>b0 (.inr (.inl z))) (fun z=>b0 (.inr (.inr (.inl z)))),?_⟩;refine Bl.other ?_ Zj (fun z=>b1 (.inl z)) (fun z=>b1 (.inr (.inl z))) (fun z=>b1 (.inr (.inr (.inl z))));exact z1.besideG z0 fr x' dis
   rintro _ H4 ⟨r,us,xs,es,ss,bs,rfl,XW,Zj,nr,dr,er,rr,w0,w1⟩;have keep:∀c o,H1 c=some o->c≠Rs->H4 c=some o:=fun c o e n=>XW c o (fun w=>by rw[(bX c w).1]at e;cases e) n ((s2.trans s3) _ _ e);have Ac0:H4 Gs=some (.lst [.ref g0,.ref g1]):=XW _ _ (fun w=>(bX _ w).2 rfl) (Ap eGs oH) WN;have Ab7:H4 Ps=some (.lst [.int p0,.int p1]):=XW _ _ (fun w=>by rw[(bX _ w).1]at QB;cases QB) (Ap TQ oH) (s3 _ _ TQ);have Ab1:H4 r1=some (.lst []):=XW _ _ (uG _ YV) d1 er1;refine Ar (fun σ' G=>∃(b4:Addr) (m0:Int),σ'=[some (.ref a),some (.ref Ps),some (.ref Gs),some (.ref Rs),some (.ref b4),none,none,none,none,none,none]/\Same H4 G/\H4 b4=none/\G b4=some (.lst [.int m0,.int 20])/\m0<=40) ?_ fun key=>?_;rotate_left
   . refine⟨_,rfl,Rs,_,_,_,rfl,rfl,.of Zj,rfl,r,us,rfl,.inl (.of er),_,_,rfl,rfl,.inr ⟨_,rfl,_,_,rfl,rfl,My (by decide) (by decide),_,_,rfl,rfl,Bc (by simp),fun b4 hMs=>?_⟩⟩;refine key _ _ ⟨b4,_,rfl,Same.new hMs,hMs,Ad,?_⟩;split<;>omega
   rintro _ H5 ⟨b4,m0,rfl,s5,XG,eMs,hm0⟩;refine Ar (fun σ' G=>∃(hd:Addr),σ'=[some (.ref a),some (.ref Ps),some (.ref Gs),some (.ref Rs),some (.ref b4),some (.ref hd),none,none,none,none,none]/\Same H5 G/\H5 hd=none/\G hd=some (.lst [])) ?_ fun key=>?_;rotate_left
   . exact⟨Bc (by simp),fun hd hhd=>key _ _ ⟨hd,rfl,Same.new hhd,hhd,Ad⟩⟩
   rintro _ H6 ⟨hd,rfl,s6,nhd,ehd⟩;have uF:=s5.trans s6;have pN:H4 hd=none:=s5.free nhd;obtain⟨W,hW⟩:∃W:Addr->Prop,W=fun c=>W4 c0 h0 e0 n0 c\/W4 c1 h1 e1 n1 c\/c=Rs\/c=hd:=⟨_,rfl⟩
   have u0:=w0.same uF;have u1:=w1.same uF;have ZM:¬W4 c0 h0 e0 n0 hd:=fun w=>(w0.at_.mut _ w).there pN;have zM:¬W4 c1 h1 e1 n1 hd:=fun w=>(w1.at_.mut _ w).there pN
   have wm:∀c,W c->Mut H6 c:=fun c w=>by
    rw[hW]at w;rcases w with w | w | rfl | rfl
    . exact u0.at_.mut c w
    . exact u1.at_.mut c w
    . exact .inl ⟨_,uF _ _ Zj⟩
    . exact .inl ⟨_,ehd⟩
   have out:∀c,¬W4 c0 h0 e0 n0 c->¬W4 c1 h1 e1 n1 c->c≠Rs->c≠hd->¬W c:=fun c n1 n2 n3 n4 w=>by
    rw[hW]at w;rcases w with w | w | w | w
    . exact n1 w
    . exact n2 w
    . exact n3 w
    . exact n4 w
   have hid:∀c o,¬W4 c0 h0 e0 n0 c->¬W4 c1 h1 e1 n1 c->c≠Rs->H4 c=some o->hidG H6 W c=some o:=fun c o n1 n2 n3 e=>by
    rw[Qo (out c n1 n2 n3 (Ap e pN))];exact uF _ _ e
   have qPs:=hid Ps _ (fun w=>by rw[(bX _ w).1]at QB;cases QB) (fun w=>by rw[(new1 _ w).1]at QB;cases QB) (Ap TQ oH) Ab7;have qGs:=hid Gs _ (fun w=>(bX _ w).2 rfl) (fun w=>(new1 _ w).2 rfl) (Ap eGs oH) Ac0
   have qMs:hidG H6 W b4=some (.lst [.int m0,.int 20]):=by
    rw[Qo (out b4 (fun w=>(w0.at_.mut _ w).there XG) (fun w=>(w1.at_.mut _ w).there XG) (fun z=>by rw[z,Zj]at XG;cases XG) (Ap eMs nhd))];exact s6 _ _ eMs
   have T6:BA K Ab H6 W Z hd Rs ⟨g0,c0,h0,e0,n0,r,p0,xs,es,ss,bs⟩ ⟨g1,c1,h1,e1,n1,r1,p1,[],[],[],[]⟩ [.ref r,.ref r1] []:=by
    have he:T3 K H6 W []:=fun v hv=>absurd hv (by simp);have wh:W hd:=by rw[hW];exact .inr (.inr (.inr rfl))
    refine⟨⟨u0,⟨us,hid r _ (uG _ nr) (XE _ nr) dr er,Reps.same uF rr⟩,fun c w=>by rw[hW];exact .inl w,wm,wh,ehd,⟨fun z=>ZM (.inl z),fun z=>ZM (.inr (.inl z)),fun z=>ZM (.inr (.inr (.inl z)))⟩,he⟩,⟨u1,⟨[],hid r1 _ (uG _ YV) (XE _ YV) d1 Ab1,rfl⟩,fun c w=>by rw[hW];exact .inr (.inl w),wm,wh,ehd,⟨fun z=>zM (.inl z),fun z=>zM (.inr (.inl z)),fun z=>zM (.inr (.inr (.inl z)))⟩,he⟩,uF _ _ Zj,by rw[hW];exact .inr (.inr (.inl rfl)),dis,uG _ oH,XE _ oH,Ap Zj pN⟩
   have wr:=T6.wr
   have hS6:SqL K H6 a (ns.map V.int):=by
    have:Same H (hidG H6 W):=fun c o e=>by
     have e1:=s1 _ _ e;have e2:=s2 _ _ e1;have nR:=Ap e2 oH;exact hid c o (fun w=>by rw[(bX _ w).1]at e1;cases e1) (fun w=>by rw[(new1 _ w).1]at e1;cases e1) nR (keep c o e1 nR)
    exact(this.trans Bn).seq hS
   clear keep hid out;refine Ar (t:=DJ _ _ _) (fun σ' G=>∃(o6 o7:Option V) (r0 r1:Addr) (xs:LLInt) (es ss:List Ms) (bs:Ms) (Ra:LLInt) (es1 ss1:List Ms) (Th:Ms) (ps:List V),σ'=[some (.ref a),some (.ref Ps),some (.ref Gs),some (.ref Rs),some (.ref b4),some (.ref hd),o6,o7,none,none,none]/\Mb W H6 G/\BA K Ab G W Z hd Rs ⟨g0,c0,h0,e0,n0,r0,p0,xs,es,ss,bs⟩ ⟨g1,c1,h1,e1,n1,r1,p1,Ra,es1,ss1,Th⟩ [.ref r0,.ref r1] ps/\ps.length<=200) ?_ fun key=>?_;rotate_left
   . refine⟨_,rfl,_,rfl,_,rfl,a,_,rfl,hS6,fun C hC=>?_⟩;rw[nN];have sC:=Same.new (o:=.lst ((CJ ns (some 2) (some 62)).map V.int)) hC;have eC:(upd H6 C (.lst ((CJ ns (some 2) (some 62)).map V.int))) C=some (.lst ((CJ ns (some 2) (some 62)).map V.int)):=Ad;have cl:=NN ns (some 2) (some 62);generalize CJ ns (some 2) (some 62)=cs at sC eC cl ⊢;generalize upd H6 C (.lst (cs.map V.int))=H7 at sC eC ⊢;have qC:hidG H7 W C=some (.lst (cs.map V.int)):=Fx (fun c w=>(wm c w).there) hC eC;refine⟨C,rfl,⟨_,.of eC⟩,?_⟩
     refine for_list (K:=K) (a:=C) (xs:=cs.map V.int) (fun i σ' G=>∃(o6 o7:Option V) (r0 r1:Addr) (xs:LLInt) (es ss:List Ms) (bs:Ms) (Ra:LLInt) (es1 ss1:List Ms) (Th:Ms) (ps:List V),σ'=[some (.ref a),some (.ref Ps),some (.ref Gs),some (.ref Rs),some (.ref b4),some (.ref hd),o6,o7,none,none,none]/\Mb W H7 G/\BA K Ab G W Z hd Rs ⟨g0,c0,h0,e0,n0,r0,p0,xs,es,ss,bs⟩ ⟨g1,c1,h1,e1,n1,r1,p1,Ra,es1,ss1,Th⟩ [.ref r0,.ref r1] ps/\ps.length<=2*i)
      ⟨none,none,r,r1,xs,es,ss,bs,[],[],[],[],[],rfl,Mb.of (Same.refl H7),T6.same sC,by simp⟩ (fun i σ' G _ ⟨_,_,_,_,_,_,_,_,_,_,_,_,_,_,fr,_⟩=>.of (Bn _ _ (fr.hid _ _ qC))) ?_ ?_
     . rintro i y σ' G hy ⟨o6,o7,r0,r1,xs,es,ss,bs,Ra,es1,ss1,Th,ps,rfl,fr,Tw,hpl⟩;have hi:i<cs.length:=by have:=(List.getElem?_eq_some_iff.mp hy).1;simpa using this
       obtain⟨cell,rfl⟩:∃cell:Int,y=.int cell:=by
        rw[List.getElem?_map,List.getElem?_eq_getElem hi]at hy;exact⟨cs[i],by simpa using hy.symm⟩
       have frT:Mb W H6 G:=(Mb.of sC).trans fr;have vQ:=Bn _ _ (frT.hid _ _ qPs);have vR:=Bn _ _ (frT.hid _ _ qGs);have kMs:=Bn _ _ (frT.hid _ _ qMs);refine Ar (fun σ' G'=>∃cell:Int,σ'=[some (.ref a),some (.ref Ps),some (.ref Gs),some (.ref Rs),some (.ref b4),some (.ref hd),some (.int cell),o7,none,none,none]/\G=G') ?_ fun key=>?_;rotate_left
       . exact⟨_,rfl,_,_,rfl,rfl,(by show(0:Int)<1000003;decide),_,_,rfl,rfl,z8 (by decide) (by decide),_,_,rfl,rfl,(by show(0:Int)<100000007;decide),key _ _ ⟨_,rfl,rfl⟩⟩
       rintro _ _ ⟨cell,rfl,rfl⟩;refine Ar (fun σ' G'=>∃at_:Int,σ'=[some (.ref a),some (.ref Ps),some (.ref Gs),some (.ref Rs),some (.ref b4),some (.ref hd),some (.int cell),some (.int at_),none,none,none]/\G=G'/\(at_=0\/at_=1)) ?_ fun key=>?_;rotate_left
       . exact⟨_,rfl,_,_,rfl,rfl,(by show(0:Int)<2;decide),key _ _ ⟨_,rfl,rfl,(by have:=Int.emod_nonneg cell (show(2:Int)≠0 by decide);have:=Int.emod_lt_of_pos cell (show(0:Int)<2 by decide);omega)⟩⟩
       rintro _ _ ⟨at_,rfl,rfl,hat⟩;rcases hat with rfl | rfl
       . refine Ar (fun σ' G'=>∃(r0 r1:Addr) (xs:LLInt) (es ss:List Ms) (bs:Ms) (Ra:LLInt) (es1 ss1:List Ms) (Th:Ms) (ps:List V),σ'=[some (.ref a),some (.ref Ps),some (.ref Gs),some (.ref Rs),some (.ref b4),some (.ref hd),some (.int cell),some (.int 0),none,none,none]/\Mb W H7 G'/\BA K Ab G' W Z hd Rs ⟨g0,c0,h0,e0,n0,r0,p0,xs,es,ss,bs⟩ ⟨g1,c1,h1,e1,n1,r1,p1,Ra,es1,ss1,Th⟩ [.ref r0,.ref r1] ps/\ps.length<=2*(i+1)) ?_ fun key=>?_;rotate_left
         . refine⟨_,rfl,_,rfl,Gs,_,_,_,rfl,rfl,.of vR,rfl,_,rfl,_,rfl,Rs,_,_,_,rfl,rfl,.of Tw.rs,rfl,_,rfl,_,rfl,Ps,_,_,_,rfl,rfl,.of vQ,rfl,_,rfl,_,_,rfl,rfl,⟨by decide,by decide⟩,_,rfl,_,rfl,b4,_,_,_,rfl,rfl,.of kMs,rfl,_,rfl,?_⟩;refine⟨g0,c0,h0,e0,n0,r0,hd,W,Z,_,m0,p0,xs,es,ss,bs,ps,rfl,hm0,Tw.a,by omega,fun a' xs' es' ss' bs' ps' G' frd l hl'=>?_⟩;obtain⟨T',KI⟩:=Tw.deed frd l;refine⟨_,rfl,_,rfl,Rs,_,0,0,rfl,rfl,T'.rs,rfl,?_⟩;exact key _ _ ⟨a',r1,xs',es',ss',bs',Ra,es1,ss1,Th,ps',rfl,(fr.trans KI).trans (Mb.up wr),T'.row,by omega⟩
         rintro _ G' ⟨r0,r1,xs,es,ss,bs,Ra,es1,ss1,Th,ps,rfl,fr,Tw,hpl⟩;refine⟨_,rfl,_,rfl,Rs,_,_,_,rfl,rfl,.of Tw.rs,rfl,rfl,_,rfl,?_⟩;refine Da (by simp) ?_;exact⟨_,_,r0,r1,xs,es,ss,bs,Ra,es1,ss1,Th,ps,rfl,fr,Tw,by omega⟩
       . refine Ar (fun σ' G'=>∃(r0 r1:Addr) (xs:LLInt) (es ss:List Ms) (bs:Ms) (Ra:LLInt) (es1 ss1:List Ms) (Th:Ms) (ps:List V),σ'=[some (.ref a),some (.ref Ps),some (.ref Gs),some (.ref Rs),some (.ref b4),some (.ref hd),some (.int cell),some (.int 1),none,none,none]/\Mb W H7 G'/\BA K Ab G' W Z hd Rs ⟨g0,c0,h0,e0,n0,r0,p0,xs,es,ss,bs⟩ ⟨g1,c1,h1,e1,n1,r1,p1,Ra,es1,ss1,Th⟩ [.ref r0,.ref r1] ps/\ps.length<=2*(i+1)) ?_ fun key=>?_;rotate_left
         . refine⟨_,rfl,_,rfl,Gs,_,_,_,rfl,rfl,.of vR,rfl,_,rfl,_,rfl,Rs,_,_,_,rfl,rfl,.of Tw.rs,rfl,_,rfl,_,rfl,Ps,_,_,_,rfl,rfl,.of vQ,rfl,_,rfl,_,_,rfl,rfl,⟨by decide,by decide⟩,_,rfl,_,rfl,b4,_,_,_,rfl,rfl,.of kMs,rfl,_,rfl,?_⟩;refine⟨g1,c1,h1,e1,n1,r1,hd,W,Z,_,20,p1,Ra,es1,ss1,Th,ps,rfl,by decide,Tw.b,by omega,fun a' xs' es' ss' bs' ps' G' frd l hl'=>?_⟩;obtain⟨T',KI⟩:=Tw.swap.deed frd l;refine⟨_,rfl,_,rfl,Rs,_,1,1,rfl,rfl,T'.rs,rfl,?_⟩;exact key _ _ ⟨r0,a',xs,es,ss,bs,xs',es',ss',bs',ps',rfl,(fr.trans KI).trans (Mb.up wr),T'.row.swap,by omega⟩
         rintro _ G' ⟨r0,r1,xs,es,ss,bs,Ra,es1,ss1,Th,ps,rfl,fr,Tw,hpl⟩;refine⟨_,rfl,_,rfl,Rs,_,_,_,rfl,rfl,.of Tw.rs,rfl,rfl,_,rfl,?_⟩;refine Da (by simp) ?_;exact⟨_,_,r0,r1,xs,es,ss,bs,Ra,es1,ss1,Th,ps,rfl,fr,Tw,by omega⟩
     . rintro σ' G ⟨o6,o7,r0,r1,xs,es,ss,bs,Ra,es1,ss1,Th,ps,rfl,fr,Tw,hpl⟩;rw[List.length_map]at hpl;exact key _ _ ⟨o6,o7,r0,r1,xs,es,ss,bs,Ra,es1,ss1,Th,ps,rfl,(Mb.of sC).trans fr,Tw,by omega⟩
   rintro _ G0 ⟨o6,o7,r0',r1',xs',es',ss',bs',yD,Ab0,YM,Ac5,ps0,rfl,fr0,T0,Aj6⟩;refine Ar (t:=DJ _ _ _) (fun σ' G=>∃(o7 o8:Option V) (r0 r1:Addr) (xs:LLInt) (es ss:List Ms) (bs:Ms) (Ra:LLInt) (es1 ss1:List Ms) (Th:Ms) (ps:List V),σ'=[some (.ref a),some (.ref Ps),some (.ref Gs),some (.ref Rs),some (.ref b4),some (.ref hd),o6,o7,o8,none,none]/\BA K Ab G W Z hd Rs ⟨g0,c0,h0,e0,n0,r0,p0,xs,es,ss,bs⟩ ⟨g1,c1,h1,e1,n1,r1,p1,Ra,es1,ss1,Th⟩ [.ref r0,.ref r1] ps) ?_ fun key=>?_;rotate_left
   . refine⟨_,rfl,by decide,by decide,?_⟩
     refine Dv (lo:=0) (n:=4) (fun i σ' G=>∃(o7 o8:Option V) (r0 r1:Addr) (xs:LLInt) (es ss:List Ms) (bs:Ms) (Ra:LLInt) (es1 ss1:List Ms) (Th:Ms) (ps:List V),σ'=[some (.ref a),some (.ref Ps),some (.ref Gs),some (.ref Rs),some (.ref b4),some (.ref hd),o6,o7,o8,none,none]/\Mb W H6 G/\BA K Ab G W Z hd Rs ⟨g0,c0,h0,e0,n0,r0,p0,xs,es,ss,bs⟩ ⟨g1,c1,h1,e1,n1,r1,p1,Ra,es1,ss1,Th⟩ [.ref r0,.ref r1] ps/\ps.length<=200+2*i)
      ⟨o7,none,r0',r1',xs',es',ss',bs',yD,Ab0,YM,Ac5,ps0,rfl,fr0,T0,by omega⟩ ?_ ?_
     . rintro i σ' G hi ⟨o7,o8,r0,r1,xs,es,ss,bs,Ra,es1,ss1,Th,ps,rfl,fr,Tw,hpl⟩;have vQ:=Bn _ _ (fr.hid _ _ qPs);have vR:=Bn _ _ (fr.hid _ _ qGs);generalize (0:Int)+(i:Int)=turn;refine Ar (fun σ' G'=>∃at_:Int,σ'=[some (.ref a),some (.ref Ps),some (.ref Gs),some (.ref Rs),some (.ref b4),some (.ref hd),o6,some (.int at_),some (.int turn),none,none]/\G=G'/\(at_=0\/at_=1)) ?_ fun key=>?_;rotate_left
       . exact⟨_,rfl,_,_,rfl,rfl,(by show(0:Int)<2;decide),key _ _ ⟨_,rfl,rfl,(by have:=Int.emod_nonneg turn (show(2:Int)≠0 by decide);have:=Int.emod_lt_of_pos turn (show(0:Int)<2 by decide);omega)⟩⟩
       rintro _ _ ⟨at_,rfl,rfl,hat⟩;rcases hat with rfl | rfl
       . refine⟨_,rfl,_,rfl,Gs,_,_,_,rfl,rfl,.of vR,rfl,_,rfl,_,rfl,Rs,_,_,_,rfl,rfl,.of Tw.rs,rfl,_,rfl,_,rfl,Ps,_,_,_,rfl,rfl,.of vQ,rfl,_,rfl,_,rfl,?_⟩;refine⟨g0,c0,h0,e0,n0,r0,hd,W,Z,turn,p0,xs,es,ss,bs,ps,rfl,Tw.a,by omega,fun ps' G' fro l hl'=>⟨_,rfl,?_⟩⟩;obtain⟨T',KI⟩:=Tw.deed (fun c o _ n e=>fro c o n e) l;refine Da (by decide) ?_;exact⟨_,_,r0,r1,xs,es,ss,bs,Ra,es1,ss1,Th,ps',rfl,fr.trans KI,T',by omega⟩
       . refine⟨_,rfl,_,rfl,Gs,_,_,_,rfl,rfl,.of vR,rfl,_,rfl,_,rfl,Rs,_,_,_,rfl,rfl,.of Tw.rs,rfl,_,rfl,_,rfl,Ps,_,_,_,rfl,rfl,.of vQ,rfl,_,rfl,_,rfl,?_⟩;refine⟨g1,c1,h1,e1,n1,r1,hd,W,Z,turn,p1,Ra,es1,ss1,Th,ps,rfl,Tw.b,by omega,fun ps' G' fro l hl'=>⟨_,rfl,?_⟩⟩;obtain⟨T',KI⟩:=Tw.swap.deed (fun c o _ n e=>fro c o n e) l;refine Da (by decide) ?_;exact⟨_,_,r0,r1,xs,es,ss,bs,Ra,es1,ss1,Th,ps',rfl,fr.trans KI,T'.swap,by omega⟩
     . rintro σ' G ⟨o7,o8,r0,r1,xs,es,ss,bs,Ra,es1,ss1,Th,ps,rfl,fr,Tw,hpl⟩;exact key _ _ ⟨o7,o8,r0,r1,xs,es,ss,bs,Ra,es1,ss1,Th,ps,rfl,Tw⟩
   rintro _ G1 ⟨o7,o8,r0,r1,xs,es,ss,bs,Ra,es1,ss1,Th,ps,rfl,T1⟩;refine Ar (t:=DJ _ _ _) (fun σ' G=>True) (fun _ _ _=>k _) fun key=>?_;refine⟨_,rfl,hd,rfl,⟨_,.of T1.a.at_⟩,?_⟩
   refine for_list (K:=K) (a:=hd) (xs:=ps) (fun i σ' G=>∃(o9 yT:Option V),σ'=[some (.ref a),some (.ref Ps),some (.ref Gs),some (.ref Rs),some (.ref b4),some (.ref hd),o6,o7,o8,o9,yT]/\Same G1 G)
    ⟨none,none,rfl,Same.refl G1⟩ (fun i σ' G _ ⟨_,_,_,g1⟩=>.of (g1 _ _ T1.a.at_)) ?_ ?_
   . rintro i v σ' G hv ⟨o9,yT,rfl,sg⟩;obtain⟨t,l,m,rfl,ht,hlm⟩:=T1.a.he v (List.mem_of_getElem? hv);refine⟨t,_,rfl,.of (sg _ _ (Bn _ _ ht)),rfl,_,_,rfl,_,_,rfl,rfl,?_⟩;refine⟨_,rfl,_,rfl,?_⟩;rcases hlm with⟨us,ws,ds,a1,a2,a3,a4,a5,a6⟩|⟨ms,a0,a1,a2⟩
     . refine .inl ⟨.lst ds,.lst ds,⟨l,us,rfl,.of (sg _ _ (Bn _ _ a1)),Reps.same sg a3⟩,⟨m,ws,rfl,.of (sg _ _ (Bn _ _ a2)),Reps.same sg a4⟩,?_,_,rfl,?_⟩
       . show deps ds+1<=8;omega
       . refine Da (by rw[Fy];decide) ?_;exact⟨_,_,rfl,sg⟩
     . refine .inr ⟨l,m,ms,ms,rfl,rfl,.of (sg _ _ (Bn _ _ a1)),.of (sg _ _ (Bn _ _ a2)),_,rfl,?_⟩;refine Da (by rw[DR a0];decide) ?_;exact⟨_,_,rfl,sg⟩
   . rintro σ' G ⟨o9,yT,rfl,sg⟩;exact key _ G trivial
end
theorem Os{α:Type}{P:List α->Prop}(h:∀a0,P [a0])(us:List α)(hl:us.length=1):P us:=by
 cases us with
 | nil=>exact nomatch hl
 | cons a0 u0 =>
   cases u0 with
   | nil=>exact h a0
   | cons _ _=>simp at hl
theorem Ef{α:Type}{P:List α->Prop}(h:∀a0 a1,P [a0,a1])(us:List α)(hl:us.length=2):P us:=by
 cases us with
 | nil=>exact nomatch hl
 | cons a0 u0 =>
   cases u0 with
   | nil=>exact nomatch hl
   | cons a1 u1 =>
     cases u1 with
     | nil=>exact h a0 a1
     | cons _ _=>simp at hl
theorem Qu{α:Type}{P:List α->Prop}(h:∀a0 a1 a2,P [a0,a1,a2])(us:List α)(hl:us.length=3):P us:=by
 cases us with
 | nil=>exact nomatch hl
 | cons a0 u0 =>
   cases u0 with
   | nil=>exact nomatch hl
   | cons a1 u1 =>
     cases u1 with
     | nil=>exact nomatch hl
     | cons a2 u2 =>
       cases u2 with
       | nil=>exact h a0 a1 a2
       | cons _ _=>simp at hl
theorem GJ{α:Type}{P:List α->Prop}(h:∀a0 a1 a2 a3,P [a0,a1,a2,a3])(us:List α)(hl:us.length=4):P us:=by
 cases us with
 | nil=>exact nomatch hl
 | cons a0 u0 =>
   cases u0 with
   | nil=>exact nomatch hl
   | cons a1 u1 =>
     cases u1 with
     | nil=>exact nomatch hl
     | cons a2 u2 =>
       cases u2 with
       | nil=>exact nomatch hl
       | cons a3 u3 =>
         cases u3 with
         | nil=>exact h a0 a1 a2 a3
         | cons _ _=>simp at hl
theorem WM{α:Type}{P:List α->Prop}(h:∀a0 a1 a2 a3 a4,P [a0,a1,a2,a3,a4])(us:List α)(hl:us.length=5):P us:=by
 cases us with
 | nil=>exact nomatch hl
 | cons a0 u0 =>
   cases u0 with
   | nil=>exact nomatch hl
   | cons a1 u1 =>
     cases u1 with
     | nil=>exact nomatch hl
     | cons a2 u2 =>
       cases u2 with
       | nil=>exact nomatch hl
       | cons a3 u3 =>
         cases u3 with
         | nil=>exact nomatch hl
         | cons a4 u4 =>
           cases u4 with
           | nil=>exact h a0 a1 a2 a3 a4
           | cons _ _=>simp at hl
theorem wM{α:Type}{P:List α->Prop}(h:∀a0 a1 a2 a3 a4 a5,P [a0,a1,a2,a3,a4,a5])(us:List α)(hl:us.length=6):P us:=by
 cases us with
 | nil=>exact nomatch hl
 | cons a0 u0 =>
   cases u0 with
   | nil=>exact nomatch hl
   | cons a1 u1 =>
     cases u1 with
     | nil=>exact nomatch hl
     | cons a2 u2 =>
       cases u2 with
       | nil=>exact nomatch hl
       | cons a3 u3 =>
         cases u3 with
         | nil=>exact nomatch hl
         | cons a4 u4 =>
           cases u4 with
           | nil=>exact nomatch hl
           | cons a5 u5 =>
             cases u5 with
             | nil=>exact h a0 a1 a2 a3 a4 a5
             | cons _ _=>simp at hl
set_option maxHeartbeats 4000000 in
theorem all_mk{l:PySem.W.OpenLaw}{w:World}{K:W.Frag}{h:Heap}{mg:Str->Option Value}{fa:Addr}{Al:Addr}
 {Am:Addr}
 {Ak:Addr}
 {Ab:Addr}
 {S2:Addr}{EF FL:OAddr}{DM:Bd}{EJ EU FD dU Xr fG:Value}
 {F5:Addr}{Sc Tj:OAddr}{Rv:Bd}{Sg Sq S6 R6 J3 Tb:Value}
 {S1:Addr}{EE fL:OAddr}{dM:Bd}{EI eU fD DT Xq FF:Value}
 {K8:Addr}{Ys Z4:OAddr}{X8:Bd}{Y0 Zb Zl Yi Ou Zt:Value}
 {aO:Addr}{lT NY:OAddr}{KS:Bd}{LX MN NG LD cN nO:Value}
 {EZ:Addr}{PL QG:OAddr}{OQ:Bd}{pM pR qD OW gO qE:Value}
 {Ca:Addr}{Se Tl:OAddr}{Rx:Bd}{Si Ss S8 R8 J5 Td:Value}
 {M7:Addr}{y6 aZ:OAddr}{r6:Bd}{y8 AG aV v9 Qw aW:Value}
 {W6:Addr}{IK jZ:OAddr}{HJ:Bd}{IP IZ jL HZ i3 jQ:Value}
 {Dx:Addr}{Pd Py:OAddr}{O6:Bd}{Pe Ph Po Pa Ht Pp:Value}
 {Fq:Addr}{Wa Xz:OAddr}{Vm:Bd}{Wd Ws Xh Vw Nd Xl:Value}
 {Fs:Addr}{Wc X1:OAddr}{Vo:Bd}{Wf Wu Xj Vy Ng Xn:Value}
 {S4:Addr}{EG fN:OAddr}{DN:Bd}{EK EV FE DV Xt fH:Value}
 {W7:Addr}{iL JZ:OAddr}{HK:Bd}{iQ jA JL iA i4 JQ:Value}
 {Pm:Addr}{bV cU:OAddr}{BF:Bd}{BW cD cJ bN Tz CL:Value}
 {Xb:Addr}{iN KC:OAddr}{HP:Bd}{IS jC JN iC i8 JS:Value}
 {Xa:Addr}{IM kC:OAddr}{HN:Bd}{iS JB jN IB i7 jS:Value}
 {aP:Addr}{LU NZ:OAddr}{kU:Bd}{LY MO NH lF cO nP:Value}
 {W9:Addr}{iM kB:OAddr}{HM:Bd}{iR jB JM iB i6 JR:Value}
 {AR:Addr}{LW OB:OAddr}{kX:Bd}{MB MQ nK lH CQ NR:Value}
 {S5:Addr}{EH FN:OAddr}{dO:Bd}{eL eW fF dW Xu FH:Value}
 {F7:Addr}{Sd Tk:OAddr}{Rw:Bd}{Sh Sr S7 R7 J4 Tc:Value}
 {NB:Addr}{SD tY:OAddr}{RN:Bd}{SE sR tR RU nU TU:Value}
 {Pk:Addr}{bU cT:OAddr}{BE:Bd}{BV cC cI BL Tx CK:Value}
 {K7:Addr}{Yr Z3:OAddr}{X7:Bd}{Yz Za Zk Yh Ot Zs:Value}
 {aR:Addr}{lW oB:OAddr}{KW:Bd}{MA mQ NJ LG cQ NQ:Value}
 {AO:Addr}{lU nZ:OAddr}{kT:Bd}{lY mO nH lE CN NO:Value}
 {M8:Addr}{y7 AZ:OAddr}{r9:Bd}{y9 aH AV w9 Qx AW:Value}
 {Lc:Addr}{Yw Z8:OAddr}{Yc:Bd}{Y4 Zf Zp Ym Oy Zx:Value}
 {Ld:Addr}{Yx Z9:OAddr}{Yd:Bd}{Y5 Zg Zq Yn Oz Zy:Value}
 {W8:Addr}{IL KA:OAddr}{HL:Bd}{IQ JA jM IA i5 jR:Value}
 {Lb:Addr}{Yv Z7:OAddr}{Yb:Bd}{Y3 Ze Zo Yl Ox Zw:Value}
 {Ep:Addr}{Of Om:OAddr}{Oc:Bd}{Og Oh Oi Od Gc Oj:Value}
 {K9:Addr}{Yt Z5:OAddr}{X9:Bd}{Y1 Zc Zm Yj Ov Zu:Value}
 {S3:Addr}{eG fM:OAddr}{dN:Bd}{eK eV fE DU Xs FG:Value}
 {Em:Addr}{Sf Tm:OAddr}{Ry:Bd}{Sj Su S9 R9 J6 Te:Value}
 {Fr:Addr}{Wb X0:OAddr}{Vn:Bd}{We Wt Xi Vx Nf Xm:Value}
 {aQ:Addr}{lV oA:OAddr}{KU:Bd}{lZ mP NI LF CO NP:Value}
 {nC:Addr}{sE TY:OAddr}{rO:Bd}{sF SR TR rV nV tV:Value}
 {D5:Addr}{Lq Ly:OAddr}{Lm:Bd}{Lr Ls Lv Ln F9 Lw:Value}
 {F8:Addr}{Lj:Nat}{Jf:Bd}{Jg:OAddr}{Dc:Tok}
 {Eh:Addr}{Mu Nj:OAddr}{Mm:Bd}{Mv M5 Na Mp Hu Nb:Value}
 {Hr:Addr}{Me:Nat}{Li:Bd}{Lk:OAddr}
 {La:Addr}{Yu Z6:OAddr}{Ya:Bd}{Y2 Zd Zn Yk Ow Zv:Value}
 {Gj:Addr}{Yy a8:OAddr}{Ye:Bd}{Y6 Zh Zr Yo O0 Zz:Value}
 {Hq:Addr}{Uk Ux:OAddr}{Ub:Bd}{Ul Up Ut Ug Lx Uu:Value}
 {AQ:Addr}{LV OA:OAddr}{kW:Bd}{LZ MP nJ lG cP nQ:Value}
 {Xc:Addr}{iO kD:OAddr}{HQ:Bd}{iT JC jO IC i9 jT:Value}
 {Pl:Addr}{BU CT:OAddr}{bF:Bd}{bW CC CI bM Ty cL:Value}
 {Xd:Addr}{iP KD:OAddr}{HR:Bd}{IT jD JO iD j5 JT:Value}
 {aS:Addr}{lX OC:OAddr}{kY:Bd}{mC mR NK lI cR nS:Value}
 {tO:Addr}{vG qZ:OAddr}{UX:Bd}{VG qR QX qM NU QY:Value}
 {Gy:Addr}{Kp Nw:Str}{Lf:List Value}{Kj:List Str}{Ic:List Value}{Lh:Bool}{Io:Option Bool}{Le:OAddr}{Kx Kw Kv Ku Kt:Option Value}
 {Oo:Tok}
 {On:Tok}
 {BC:Tok}
 {Ho:Addr}{Wk:Nat}{Ua:Bd}{Rf Re Rc Rb:Tok}
 (X:K.In h) (G:h.Ns mainGlobals mg) (hfa:mg "law"=some (.ref fa))
 (ac_HoleError:W.nsIn K mainGlobals "HoleError"=some (some (.ref Al)))
 (ac_NoShape:W.nsIn K mainGlobals "NoShape"=some (some (.ref Am)))
 (ac_NoPiece:W.nsIn K mainGlobals "NoPiece"=some (some (.ref Ak)))
 (ac_Growth:W.nsIn K mainGlobals "Growth"=some (some (.ref Ab)))
 (zq3r:W.nsIn K mainGlobals "is_whole"=some (some (.ref S2)))
 (zq3h:K.lookup S2=some ⟨EJ,EF,.func (W.fnOf "is_whole" "is_whole" (A0 Fd) (Ay Fd) (Ai Fd) .none EU FD dU FL Xr fG),DM⟩)
 (zq3m:W.codeIn K Xr "is_whole"=true)
 (zq2v:W.keepIn K (.ref S2)=true)
 (zq0x:W.nsIn K mainGlobals "shared_divisor"=some (some (.ref F5)))
 (zq0o:K.lookup F5=some ⟨Sg,Sc,.func (W.fnOf "shared_divisor" "shared_divisor" (A0 Cd) (Ay Cd) (Ai Cd) .none Sq S6 R6 Tj J3 Tb),Rv⟩)
 (zq0t:W.codeIn K J3 "shared_divisor"=true)
 (zq04:W.keepIn K (.ref F5)=true)
 (zq3q:W.nsIn K mainGlobals "level_of"=some (some (.ref S1)))
 (zq3g:K.lookup S1=some ⟨EI,EE,.func (W.fnOf "level_of" "level_of" (A0 Fc) (Ay Fc) (Ai Fc) .none eU fD DT fL Xq FF),dM⟩)
 (zq3l:W.codeIn K Xq "level_of"=true)
 (zq2u:W.keepIn K (.ref S1)=true)
 (zq2g:W.nsIn K mainGlobals "faces_agree"=some (some (.ref K8)))
 (zq1x:K.lookup K8=some ⟨Y0,Ys,.func (W.fnOf "faces_agree" "faces_agree" (A0 Dk) (Ay Dk) (Ai Dk) .none Zb Zl Yi Z4 Ou Zt),X8⟩)
 (zq28:W.codeIn K Ou "faces_agree"=true)
 (zq11:W.keepIn K (.ref K8)=true)
 (zq58:W.nsIn K mainGlobals "add_at"=some (some (.ref aO)))
 (zq4r:K.lookup aO=some ⟨LX,lT,.func (W.fnOf "add_at" "add_at" (A0 Jk) (Ay Jk) (Ai Jk) .none MN NG LD NY cN nO),KS⟩)
 (zq50:W.codeIn K cN "add_at"=true)
 (zq3v:W.keepIn K (.ref aO)=true)
 (zq5i:W.nsIn K mainGlobals "times"=some (some (.ref EZ)))
 (zq5g:K.lookup EZ=some ⟨pM,PL,.func (W.fnOf "times" "times" (A0 Nu) (Ay Nu) (Ai Nu) .none pR qD OW QG gO qE),OQ⟩)
 (zq5h:W.codeIn K gO "times"=true)
 (zq4z:W.keepIn K (.ref EZ)=true)
 (zq2n:W.findIn K (.ref Ak) "__init__"=some (some (.ref Ca)))
 (zq00:W.isFn K (.ref Ca)=true)
 (zq0q:K.lookup Ca=some ⟨Si,Se,.func (W.fnOf "__init__" "NoPiece.__init__" (A0 Cf) (Ay Cf) (Ai Cf) .none Ss S8 R8 Tl J5 Td),Rx⟩)
 (zq0v:W.codeIn K J5 "NoPiece.__init__"=true)
 (zq0s:W.keepIn K (.ref Ca)=true)
 (zq2s:W.nsIn K mainGlobals "check_size"=some (some (.ref M7)))
 (zq2o:K.lookup M7=some ⟨y8,y6,.func (W.fnOf "check_size" "check_size" (A0 D9) (Ay D9) (Ai D9) .none AG aV v9 aZ Qw aW),r6⟩)
 (zq2q:W.codeIn K Qw "check_size"=true)
 (zq1i:W.keepIn K (.ref M7)=true)
 (zq4j:W.nsIn K mainGlobals "counted"=some (some (.ref W6)))
 (zq43:K.lookup W6=some ⟨IP,IK,.func (W.fnOf "counted" "counted" (A0 Gn) (Ay Gn) (Ai Gn) .none IZ jL HZ jZ i3 jQ),HJ⟩)
 (zq4b:W.codeIn K i3 "counted"=true)
 (zq38:W.keepIn K (.ref W6)=true)
 (zq0g:W.findIn K (.ref Ab) "take_back"=some (some (.ref Dx)))
 (zq09:W.isFn K (.ref Dx)=true)
 (zq0c:K.lookup Dx=some ⟨Pe,Pd,.func (W.fnOf "take_back" "Growth.take_back" (A0 Bz) (Ay Bz) (Ai Bz) .none Ph Po Pa Py Ht Pp),O6⟩)
 (zq0f:W.codeIn K Ht "Growth.take_back"=true)
 (zq02:W.keepIn K (.ref Dx)=true)
 (zq1t:W.findIn K (.ref Ab) "shape"=some (some (.ref Fq)))
 (zq1c:W.isFn K (.ref Fq)=true)
 (zq1k:K.lookup Fq=some ⟨Wd,Wa,.func (W.fnOf "shape" "Growth.shape" (A0 Cz) (Ay Cz) (Ai Cz) .none Ws Xh Vw Xz Nd Xl),Vm⟩)
 (zq1p:W.codeIn K Nd "Growth.shape"=true)
 (zq0j:W.keepIn K (.ref Fq)=true)
 (zq1v:W.findIn K (.ref Ab) "pairs"=some (some (.ref Fs)))
 (zq1e:W.isFn K (.ref Fs)=true)
 (zq1m:K.lookup Fs=some ⟨Wf,Wc,.func (W.fnOf "pairs" "Growth.pairs" (A0 C3) (Ay C3) (Ai C3) .none Wu Xj Vy X1 Ng Xn),Vo⟩)
 (zq1r:W.codeIn K Ng "Growth.pairs"=true)
 (zq0l:W.keepIn K (.ref Fs)=true)
 (zq3t:W.nsIn K mainGlobals "is_alive"=some (some (.ref S4)))
 (zq3j:K.lookup S4=some ⟨EK,EG,.func (W.fnOf "is_alive" "is_alive" (A0 Ff) (Ay Ff) (Ai Ff) .none EV FE DV fN Xt fH),DN⟩)
 (zq3o:W.codeIn K Xt "is_alive"=true)
 (zq2x:W.keepIn K (.ref S4)=true)
 (zq4k:W.nsIn K mainGlobals "_law_whole"=some (some (.ref W7)))
 (zq44:K.lookup W7=some ⟨iQ,iL,.func (W.fnOf "_law_whole" "_law_whole" (A0 Go) (Ay Go) (Ai Go) .none jA JL iA JZ i4 JQ),HK⟩)
 (zq4c:W.codeIn K i4 "_law_whole"=true)
 (zq39:W.keepIn K (.ref W7)=true)
 (zq37:W.nsIn K mainGlobals "_law_cell_at"=some (some (.ref Pm)))
 (zq31:K.lookup Pm=some ⟨BW,bV,.func (W.fnOf "_law_cell_at" "_law_cell_at" (A0 Ev) (Ay Ev) (Ai Ev) .none cD cJ bN cU Tz CL),BF⟩)
 (zq34:W.codeIn K Tz "_law_cell_at"=true)
 (zq26:W.keepIn K (.ref Pm)=true)
 (zq4o:W.nsIn K mainGlobals "_law_level"=some (some (.ref Xb)))
 (zq48:K.lookup Xb=some ⟨IS,iN,.func (W.fnOf "_law_level" "_law_level" (A0 Gu) (Ay Gu) (Ai Gu) .none jC JN iC KC i8 JS),HP⟩)
 (zq4g:W.codeIn K i8 "_law_level"=true)
 (zq3d:W.keepIn K (.ref Xb)=true)
 (zq4n:W.nsIn K mainGlobals "_law_meets"=some (some (.ref Xa)))
 (zq47:K.lookup Xa=some ⟨iS,IM,.func (W.fnOf "_law_meets" "_law_meets" (A0 Gr) (Ay Gr) (Ai Gr) .none JB jN IB kC i7 jS),HN⟩)
 (zq4f:W.codeIn K i7 "_law_meets"=true)
 (zq3c:W.keepIn K (.ref Xa)=true)
 (zq5a:W.nsIn K mainGlobals "_law_pick"=some (some (.ref aP)))
 (zq4t:K.lookup aP=some ⟨LY,LU,.func (W.fnOf "_law_pick" "_law_pick" (A0 Jm) (Ay Jm) (Ai Jm) .none MO NH lF NZ cO nP),kU⟩)
 (zq52:W.codeIn K cO "_law_pick"=true)
 (zq3x:W.keepIn K (.ref aP)=true)
 (zq4m:W.nsIn K mainGlobals "_law_prime"=some (some (.ref W9)))
 (zq46:K.lookup W9=some ⟨iR,iM,.func (W.fnOf "_law_prime" "_law_prime" (A0 Gq) (Ay Gq) (Ai Gq) .none jB JM iB kB i6 JR),HM⟩)
 (zq4e:W.codeIn K i6 "_law_prime"=true)
 (zq3b:W.keepIn K (.ref W9)=true)
 (zq5e:W.nsIn K mainGlobals "_law_edge"=some (some (.ref AR)))
 (zq4x:K.lookup AR=some ⟨MB,LW,.func (W.fnOf "_law_edge" "_law_edge" (A0 Jq) (Ay Jq) (Ai Jq) .none MQ nK lH OB CQ NR),kX⟩)
 (zq56:W.codeIn K CQ "_law_edge"=true)
 (zq41:W.keepIn K (.ref AR)=true)
 (zq3u:W.nsIn K mainGlobals "_law_misfit"=some (some (.ref S5)))
 (zq3k:K.lookup S5=some ⟨eL,EH,.func (W.fnOf "_law_misfit" "_law_misfit" (A0 Fg) (Ay Fg) (Ai Fg) .none eW fF dW FN Xu FH),dO⟩)
 (zq3p:W.codeIn K Xu "_law_misfit"=true)
 (zq2y:W.keepIn K (.ref S5)=true)
 (zq0y:W.nsIn K mainGlobals "is_whole_below"=some (some (.ref F7)))
 (zq0p:K.lookup F7=some ⟨Sh,Sd,.func (W.fnOf "is_whole_below" "is_whole_below" (A0 Ce) (Ay Ce) (Ai Ce) .none Sr S7 R7 Tk J4 Tc),Rw⟩)
 (zq0u:W.codeIn K J4 "is_whole_below"=true)
 (zq05:W.keepIn K (.ref F7)=true)
 (zq5p:W.nsIn K mainGlobals "plus"=some (some (.ref NB)))
 (zq5l:K.lookup NB=some ⟨SE,SD,.func (W.fnOf "plus" "plus" (A0 R3) (Ay R3) (Ai R3) .none sR tR RU tY nU TU),RN⟩)
 (zq5n:W.codeIn K nU "plus"=true)
 (zq5j:W.keepIn K (.ref NB)=true)
 (zq35:W.nsIn K mainGlobals "add_faces"=some (some (.ref Pk)))
 (zq2z:K.lookup Pk=some ⟨BV,bU,.func (W.fnOf "add_faces" "add_faces" (A0 Es) (Ay Es) (Ai Es) .none cC cI BL cT Tx CK),BE⟩)
 (zq32:W.codeIn K Tx "add_faces"=true)
 (zq24:W.keepIn K (.ref Pk)=true)
 (zq2f:W.nsIn K mainGlobals "turned_over"=some (some (.ref K7)))
 (zq1w:K.lookup K7=some ⟨Yz,Yr,.func (W.fnOf "turned_over" "turned_over" (A0 Dj) (Ay Dj) (Ai Dj) .none Za Zk Yh Z3 Ot Zs),X7⟩)
 (zq27:W.codeIn K Ot "turned_over"=true)
 (zq10:W.keepIn K (.ref K7)=true)
 (zq5d:W.nsIn K mainGlobals "_law_fits"=some (some (.ref aR)))
 (zq4w:K.lookup aR=some ⟨MA,lW,.func (W.fnOf "_law_fits" "_law_fits" (A0 Jp) (Ay Jp) (Ai Jp) .none mQ NJ LG oB cQ NQ),KW⟩)
 (zq55:W.codeIn K cQ "_law_fits"=true)
 (zq40:W.keepIn K (.ref aR)=true)
 (zq59:W.nsIn K mainGlobals "_law_side"=some (some (.ref AO)))
 (zq4s:K.lookup AO=some ⟨lY,lU,.func (W.fnOf "_law_side" "_law_side" (A0 Jl) (Ay Jl) (Ai Jl) .none mO nH lE nZ CN NO),kT⟩)
 (zq51:W.codeIn K CN "_law_side"=true)
 (zq3w:W.keepIn K (.ref AO)=true)
 (zq2t:W.nsIn K mainGlobals "_law_is_paper"=some (some (.ref M8)))
 (zq2p:K.lookup M8=some ⟨y9,y7,.func (W.fnOf "_law_is_paper" "_law_is_paper" (A0 Ea) (Ay Ea) (Ai Ea) .none aH AV w9 AZ Qx AW),r9⟩)
 (zq2r:W.codeIn K Qx "_law_is_paper"=true)
 (zq1j:W.keepIn K (.ref M8)=true)
 (zq2k:W.nsIn K mainGlobals "_law_are_pairs"=some (some (.ref Lc)))
 (zq21:K.lookup Lc=some ⟨Y4,Yw,.func (W.fnOf "_law_are_pairs" "_law_are_pairs" (A0 Dp) (Ay Dp) (Ai Dp) .none Zf Zp Ym Z8 Oy Zx),Yc⟩)
 (zq2c:W.codeIn K Oy "_law_are_pairs"=true)
 (zq15:W.keepIn K (.ref Lc)=true)
 (zq2l:W.nsIn K mainGlobals "_law_alive_due"=some (some (.ref Ld)))
 (zq22:K.lookup Ld=some ⟨Y5,Yx,.func (W.fnOf "_law_alive_due" "_law_alive_due" (A0 Dq) (Ay Dq) (Ai Dq) .none Zg Zq Yn Z9 Oz Zy),Yd⟩)
 (zq2d:W.codeIn K Oz "_law_alive_due"=true)
 (zq16:W.keepIn K (.ref Ld)=true)
 (zq4l:W.nsIn K mainGlobals "_law_taken"=some (some (.ref W8)))
 (zq45:K.lookup W8=some ⟨IQ,IL,.func (W.fnOf "_law_taken" "_law_taken" (A0 Gp) (Ay Gp) (Ai Gp) .none JA jM IA KA i5 jR),HL⟩)
 (zq4d:W.codeIn K i5 "_law_taken"=true)
 (zq3a:W.keepIn K (.ref W8)=true)
 (zq2j:W.nsIn K mainGlobals "_law_is_misfit"=some (some (.ref Lb)))
 (zq20:K.lookup Lb=some ⟨Y3,Yv,.func (W.fnOf "_law_is_misfit" "_law_is_misfit" (A0 Do) (Ay Do) (Ai Do) .none Ze Zo Yl Z7 Ox Zw),Yb⟩)
 (zq2b:W.codeIn K Ox "_law_is_misfit"=true)
 (zq14:W.keepIn K (.ref Lb)=true)
 (zq0b:W.nsIn K mainGlobals "is_place_of_level"=some (some (.ref Ep)))
 (zq08:K.lookup Ep=some ⟨Og,Of,.func (W.fnOf "is_place_of_level" "is_place_of_level" (A0 Bx) (Ay Bx) (Ai Bx) .none Oh Oi Od Om Gc Oj),Oc⟩)
 (zq0a:W.codeIn K Gc "is_place_of_level"=true)
 (zq01:W.keepIn K (.ref Ep)=true)
 (zq2h:W.nsIn K mainGlobals "check_level"=some (some (.ref K9)))
 (zq1y:K.lookup K9=some ⟨Y1,Yt,.func (W.fnOf "check_level" "check_level" (A0 Dl) (Ay Dl) (Ai Dl) .none Zc Zm Yj Z5 Ov Zu),X9⟩)
 (zq29:W.codeIn K Ov "check_level"=true)
 (zq12:W.keepIn K (.ref K9)=true)
 (zq3s:W.nsIn K mainGlobals "is_prime"=some (some (.ref S3)))
 (zq3i:K.lookup S3=some ⟨eK,eG,.func (W.fnOf "is_prime" "is_prime" (A0 Fe) (Ay Fe) (Ai Fe) .none eV fE DU fM Xs FG),dN⟩)
 (zq3n:W.codeIn K Xs "is_prime"=true)
 (zq2w:W.keepIn K (.ref S3)=true)
 (zq0z:W.findIn K (.ref Ab) "settled"=some (some (.ref Em)))
 (zq0i:W.isFn K (.ref Em)=true)
 (zq0r:K.lookup Em=some ⟨Sj,Sf,.func (W.fnOf "settled" "Growth.settled" (A0 Cg) (Ay Cg) (Ai Cg) .none Su S9 R9 Tm J6 Te),Ry⟩)
 (zq0w:W.codeIn K J6 "Growth.settled"=true)
 (zq06:W.keepIn K (.ref Em)=true)
 (zq1u:W.findIn K (.ref Ab) "paper"=some (some (.ref Fr)))
 (zq1d:W.isFn K (.ref Fr)=true)
 (zq1l:K.lookup Fr=some ⟨We,Wb,.func (W.fnOf "paper" "Growth.paper" (A0 C0) (Ay C0) (Ai C0) .none Wt Xi Vx X0 Nf Xm),Vn⟩)
 (zq1q:W.codeIn K Nf "Growth.paper"=true)
 (zq0k:W.keepIn K (.ref Fr)=true)
 (zq5b:W.nsIn K mainGlobals "_law_next"=some (some (.ref aQ)))
 (zq4u:K.lookup aQ=some ⟨lZ,lV,.func (W.fnOf "_law_next" "_law_next" (A0 Jn) (Ay Jn) (Ai Jn) .none mP NI LF oA CO NP),KU⟩)
 (zq53:W.codeIn K CO "_law_next"=true)
 (zq3y:W.keepIn K (.ref aQ)=true)
 (zq5q:W.nsIn K mainGlobals "fits"=some (some (.ref nC)))
 (zq5m:K.lookup nC=some ⟨sF,sE,.func (W.fnOf "fits" "fits" (A0 R4) (Ay R4) (Ai R4) .none SR TR rV TY nV tV),rO⟩)
 (zq5o:W.codeIn K nV "fits"=true)
 (zq5k:W.keepIn K (.ref nC)=true)
 (zq0h:W.findIn K (.ref Ab) "__init__"=some (some (.ref D5)))
 (zq07:W.isFn K (.ref D5)=true)
 (zq1a:K.lookup D5=some ⟨Lr,Lq,.func (W.fnOf "__init__" "Growth.__init__" (A0 Co) (Ay Co) (Ai Co) (.ref F8) Ls Lv Ln Ly F9 Lw),Lm⟩)
 (zq0n:K.lookup F8=some ⟨.type "tuple",Jg,.seq #[.int 2 Dc] Lj,Jf⟩)
 (zq1g:W.codeIn K F9 "Growth.__init__"=true)
 (zq1b:W.keepIn K (.ref D5)=true)
 (zq0m:W.findIn K (.ref Ab) "alive"=some (some (.ref Eh)))
 (zq0e:W.isFn K (.ref Eh)=true)
 (zq1n:K.lookup Eh=some ⟨Mv,Mu,.func (W.fnOf "alive" "Growth.alive" (A0 C4) (Ay C4) (Ai C4) (.ref Hr) M5 Na Mp Nj Hu Nb),Mm⟩)
 (zq18:K.lookup Hr=some ⟨.type "tuple",Lk,.seq #[.none] Me,Li⟩)
 (zq1s:W.codeIn K Hu "Growth.alive"=true)
 (zq03:W.keepIn K (.ref Eh)=true)
 (zq2i:W.nsIn K mainGlobals "_law_pairs_due"=some (some (.ref La)))
 (zq1z:K.lookup La=some ⟨Y2,Yu,.func (W.fnOf "_law_pairs_due" "_law_pairs_due" (A0 Dm) (Ay Dm) (Ai Dm) .none Zd Zn Yk Z6 Ow Zv),Ya⟩)
 (zq2a:W.codeIn K Ow "_law_pairs_due"=true)
 (zq13:W.keepIn K (.ref La)=true)
 (zq2m:W.findIn K (.ref Ab) "grow"=some (some (.ref Gj)))
 (zq1o:W.isFn K (.ref Gj)=true)
 (zq23:K.lookup Gj=some ⟨Y6,Yy,.func (W.fnOf "grow" "Growth.grow" (A0 Dr) (Ay Dr) (Ai Dr) .none Zh Zr Yo a8 O0 Zz),Ye⟩)
 (zq2e:W.codeIn K O0 "Growth.grow"=true)
 (zq17:W.keepIn K (.ref Gj)=true)
 (zq1h:W.nsIn K mainGlobals "_law_alive_right"=some (some (.ref Hq)))
 (zq19:K.lookup Hq=some ⟨Ul,Uk,.func (W.fnOf "_law_alive_right" "_law_alive_right" (A0 Cn) (Ay Cn) (Ai Cn) .none Up Ut Ug Ux Lx Uu),Ub⟩)
 (zq1f:W.codeIn K Lx "_law_alive_right"=true)
 (zq0d:W.keepIn K (.ref Hq)=true)
 (zq5c:W.nsIn K mainGlobals "_law_look"=some (some (.ref AQ)))
 (zq4v:K.lookup AQ=some ⟨LZ,LV,.func (W.fnOf "_law_look" "_law_look" (A0 Jo) (Ay Jo) (Ai Jo) .none MP nJ lG OA cP nQ),kW⟩)
 (zq54:W.codeIn K cP "_law_look"=true)
 (zq3z:W.keepIn K (.ref AQ)=true)
 (zq4p:W.nsIn K mainGlobals "_law_grown"=some (some (.ref Xc)))
 (zq49:K.lookup Xc=some ⟨iT,iO,.func (W.fnOf "_law_grown" "_law_grown" (A0 Gv) (Ay Gv) (Ai Gv) .none JC jO IC kD i9 jT),HQ⟩)
 (zq4h:W.codeIn K i9 "_law_grown"=true)
 (zq3e:W.keepIn K (.ref Xc)=true)
 (zq36:W.nsIn K mainGlobals "_law_refused"=some (some (.ref Pl)))
 (zq30:K.lookup Pl=some ⟨bW,BU,.func (W.fnOf "_law_refused" "_law_refused" (A0 Et) (Ay Et) (Ai Et) .none CC CI bM CT Ty cL),bF⟩)
 (zq33:W.codeIn K Ty "_law_refused"=true)
 (zq25:W.keepIn K (.ref Pl)=true)
 (zq4q:W.nsIn K mainGlobals "_law_begun"=some (some (.ref Xd)))
 (zq4a:K.lookup Xd=some ⟨IT,iP,.func (W.fnOf "_law_begun" "_law_begun" (A0 Gw) (Ay Gw) (Ai Gw) .none jD JO iD KD j5 JT),HR⟩)
 (zq4i:W.codeIn K j5 "_law_begun"=true)
 (zq3f:W.keepIn K (.ref Xd)=true)
 (zq5f:W.nsIn K mainGlobals "_law_deed"=some (some (.ref aS)))
 (zq4y:K.lookup aS=some ⟨mC,lX,.func (W.fnOf "_law_deed" "_law_deed" (A0 Jr) (Ay Jr) (Ai Jr) .none mR NK lI OC cR nS),kY⟩)
 (zq57:W.codeIn K cR "_law_deed"=true)
 (zq42:W.keepIn K (.ref aS)=true)
 (zq5u:W.nsIn K mainGlobals "law"=some (some (.ref tO)))
 (zq5r:K.lookup tO=some ⟨VG,vG,.func (W.fnOf "law" "law" (A0 Qa) (Ay Qa) (Ai Qa) .none qR QX qM qZ NU QY),UX⟩)
 (zq5t:W.codeIn K NU "law"=true)
 (zq5s:W.keepIn K (.ref tO)=true)
 (mk_Growth:PySem.W.makesIn K Ab=true)
 (kc_Growth:W.keepIn K (.ref Ab)=true)
 (kc_NoPiece:W.keepIn K (.ref Ak)=true)
 (eo_NoPiece:K.lookup Ak=some (excClassObj Kp Nw Ak Gy Lf (.ref Al::bmV) true Kj Ic Lh Io Le Kx Kw Kv Ku Kt "ValueError.__new__"))
 (en_NoPiece:PySem.W.nsOkIn K Gy=true)
 (ei_NoPiece:W.nsIn K Gy "__init__"=some (some (.ref Ca)))
 (et_NoPiece:PySem.W.tailIn K bmV (.ref Al::bmV)=true)
 (es_NoPiece:W.findIn K (.ref Ak) "__setattr__"=some (some (.builtin "object.__setattr__")))
 (ae_NoShape:PySem.W.excIn K Am bmV "ValueError.__new__"=true)
 (ak_NoShape:PySem.W.ktsIn K Am "BaseException"=true)
 (ak_NoPiece:PySem.W.ktsIn K Ak "BaseException"=true)
 (a1_NoPiece:W.findIn K (.ref Ak) "__getattribute__"=some (some (.builtin "BaseException.__getattribute__")))
 (a2_NoPiece:W.findIn K (.ref Ak) "__getattr__"=some none)
 (a3_NoPiece:W.findIn K (.ref Ak) "__class__"=some (some (.builtin "object.__class__")))
 (a4_NoPiece:PySem.W.subIn K (.ref Ak) (.type "object")=some true)
 (a5_NoPiece:PySem.W.subIn K (.ref Ak) (.type "BaseException")=some true)
 (as_NoShape_NoShape:PySem.W.subIn K (.ref Am) (.ref Am)=some true)
 (as_NoShape_NoPiece:PySem.W.subIn K (.ref Am) (.ref Ak)=some false)
 (as_NoPiece_NoPiece:PySem.W.subIn K (.ref Ak) (.ref Ak)=some true)
 (b1_HoleError:PySem.W.readsIn K Al (.type "type")=true)
 (b2_HoleError:PySem.W.findCls K (.ref Al) (.type "type") "__init__"=some (.val (.builtin "ValueError.__init__")))
 (b3_HoleError:PySem.W.specialIn K (.ref Al) "__getattribute__"=some (some (.builtin "type.__getattribute__")))
 (na_NoPiece_place:W.findIn K (.ref Ak) "place"=some none)
 (pg_Growth:PySem.W.plainGet K Ab Str.empty=true)
 (hd_Growth:PySem.W.hasDictIn K Ab=true)
 (po_Growth:PySem.W.plainOver K Ab=true)
 (sa_Growth:W.findIn K (.ref Ab) "__setattr__"=some (some (.builtin "object.__setattr__")))
 (na_Growth_prime:W.findIn K (.ref Ab) "prime"=some none)
 (na_Growth_pieces:W.findIn K (.ref Ab) "pieces"=some none)
 (na_Growth_sheets:W.findIn K (.ref Ab) "sheets"=some none)
 (na_Growth_edges:W.findIn K (.ref Ab) "edges"=some none)
 (na_Growth_enders:W.findIn K (.ref Ab) "enders"=some none)
 (ac_FACE_COUNTS:W.nsIn K mainGlobals "FACE_COUNTS"=some (some (.ref Ho)))
 (lc_FACE_COUNTS:K.lookup Ho=some ⟨.type "tuple",none,.seq #[.int 0 Rf,.int 2 Re,.int 3 Rc,.int 4 Rb] Wk,Ua⟩)
 (aq_MOST_PIECES:W.nsIn K mainGlobals "MOST_PIECES"=some (some (.int 40 Oo)))
 (aq_PRIME_BOUND:W.nsIn K mainGlobals "PRIME_BOUND"=some (some (.int 98 On)))
 (aq_LEVELS:W.nsIn K mainGlobals "LEVELS"=some (some (.int 4 BC)))
 (z_isinstance:W.nsIn K mainGlobals "isinstance"=some none)
 (z_int:W.nsIn K mainGlobals "int"=some none)
 (z_bool:W.nsIn K mainGlobals "bool"=some none)
 (z_tuple:W.nsIn K mainGlobals "tuple"=some none)
 (z_zip:W.nsIn K mainGlobals "zip"=some none)
 (z_max:W.nsIn K mainGlobals "max"=some none)
 (z_len:W.nsIn K mainGlobals "len"=some none)
 (z_all:W.nsIn K mainGlobals "all"=some none)
 (z_range:W.nsIn K mainGlobals "range"=some none)
 (z_dict:W.nsIn K mainGlobals "dict"=some none)
 (z_enumerate:W.nsIn K mainGlobals "enumerate"=some none)
 (z_list:W.nsIn K mainGlobals "list"=some none) :
 ∃fd:FuncData,(∀(s:Shared) (v:Value),BindsTo s fd ⟨[v],[]⟩ [("_law_script",v)])/\∀base:Heap,K.In base->base.Ns mainGlobals mg->Bj l.prog w K mg base Er 8 fa fd ["_law_script"] (p7 K):=by
 have e:=hfa.symm.trans (W.mg_of X G zq5u);cases e;have T:Ga K mg Al Am Ak Ab:=⟨W.mg_of X G ac_HoleError,W.mg_of X G ac_NoShape,ae_NoShape,ak_NoShape,W.mg_of X G ac_NoPiece,⟨ak_NoPiece,a1_NoPiece,a2_NoPiece,a3_NoPiece,a4_NoPiece,a5_NoPiece⟩,ak_NoPiece,as_NoShape_NoShape,as_NoShape_NoPiece,as_NoPiece_NoPiece,⟨b1_HoleError,b2_HoleError,b3_HoleError⟩,⟨Ca,⟨⟨Gy,Kp,Nw,Lf,Kj,Ic,Lh,Io,Le,Kx,Kw,Kv,Ku,Kt,eo_NoPiece,en_NoPiece,ei_NoPiece⟩,et_NoPiece,zq00,es_NoPiece⟩⟩,P1.attr (D:=Al) (f:=Ca) ⟨⟨Gy,Kp,Nw,Lf,Kj,Ic,Lh,Io,Le,Kx,Kw,Kv,Ku,Kt,eo_NoPiece,en_NoPiece,ei_NoPiece⟩,et_NoPiece,zq00,es_NoPiece⟩ na_NoPiece_place,W.mg_of X G ac_Growth,⟨pg_Growth,hd_Growth,po_Growth,sa_Growth⟩,na_Growth_prime,na_Growth_pieces,na_Growth_sheets,na_Growth_edges,na_Growth_enders,⟨Ho,W.mg_of X G ac_FACE_COUNTS,fun H=>.inr ⟨_,_,_,lc_FACE_COUNTS,rfl,rfl,rfl,(by show(4:Nat)<=sizeLine;decide),.cons ⟨_,rfl⟩ (.cons ⟨_,rfl⟩ (.cons ⟨_,rfl⟩ (.cons ⟨_,rfl⟩ (.nil))))⟩⟩,⟨_,W.mg_of X G aq_MOST_PIECES⟩,⟨_,W.mg_of X G aq_PRIME_BOUND⟩,⟨_,W.mg_of X G aq_LEVELS⟩,W.mg_none_of X G z_isinstance,W.mg_none_of X G z_int,W.mg_none_of X G z_bool,W.mg_none_of X G z_tuple,W.mg_none_of X G z_zip,W.mg_none_of X G z_max,W.mg_none_of X G z_len,W.mg_none_of X G z_all,W.mg_none_of X G z_range,W.mg_none_of X G z_dict,W.mg_none_of X G z_enumerate,W.mg_none_of X G z_list⟩
 have l9:=A9 (st:=Fd) zq3h zq3m zq2v;have L5:=A9 (st:=Cd) zq0o zq0t zq04;have l8:=A9 (st:=Fc) zq3g zq3l zq2u;have Q2:=A9 (st:=Dk) zq1x zq28 zq11;have gU:=A9 (st:=Jk) zq4r zq50 zq3v;have oF:=A9 (st:=Nu) zq5g zq5h zq4z;have L7:=A9 (st:=Cf) zq0q zq0v zq0s;have T4:=A9 (st:=D9) zq2o zq2q zq1i;have CW:=A9 (st:=Gn) zq43 zq4b zq38;have Iu:=A9 (st:=Bz) zq0c zq0f zq02;have O2:=A9 (st:=Cz) zq1k zq1p zq0j;have O4:=A9 (st:=C3) zq1m zq1r zq0l;have m7:=A9 (st:=Ff) zq3j zq3o zq2x;have cX:=A9 (st:=Go) zq44 zq4c zq39;have X4:=A9 (st:=Ev) zq31 zq34 zq26;have CZ:=A9 (st:=Gu) zq48 zq4g zq3d;have cZ:=A9 (st:=Gr) zq47 zq4f zq3c;have GV:=A9 (st:=Jm) zq4t zq52 zq3x;have CY:=A9 (st:=Gq) zq46 zq4e zq3b;have GX:=A9 (st:=Jq) zq4x zq56 zq41;have m8:=A9 (st:=Fg) zq3k zq3p zq2y;have L6:=A9 (st:=Ce) zq0p zq0u zq05;have RC:=A9 (st:=R3) zq5l zq5n zq5j;have X2:=A9 (st:=Es) zq2z zq32 zq24;have Q1:=A9 (st:=Dj) zq1w zq27 zq10;have gX:=A9 (st:=Jp) zq4w zq55 zq40;have GU:=A9 (st:=Jl) zq4s zq51 zq3w;have T5:=A9 (st:=Ea) zq2p zq2r zq1j;have Q6:=A9 (st:=Dp) zq21 zq2c zq15;have Q7:=A9 (st:=Dq) zq22 zq2d zq16;have cY:=A9 (st:=Gp) zq45 zq4d zq3a;have Q5:=A9 (st:=Do) zq20 zq2b zq14;have Hw:=A9 (st:=Bx) zq08 zq0a zq01;have Q3:=A9 (st:=Dl) zq1y zq29 zq12;have m6:=A9 (st:=Fe) zq3i zq3n zq2w;have L8:=A9 (st:=Cg) zq0r zq0w zq06;have O3:=A9 (st:=C0) zq1l zq1q zq0k;have gW:=A9 (st:=Jn) zq4u zq53 zq3y;have RD:=A9 (st:=R4) zq5m zq5o zq5k;have E5:CV K "__init__" "Growth.__init__" Co D5 _ [.int 2 Dc]:=⟨⟨Lr,Lq,Ls,Lv,Ln,Ly,F9,Lw,Lm,F8,Lj,Jf,Jg,rfl,zq1a,zq1g,zq0n⟩,zq1b⟩
 have Fu:CV K "alive" "Growth.alive" C4 Eh _ [.none]:=⟨⟨Mv,Mu,M5,Na,Mp,Nj,Hu,Nb,Mm,Hr,Me,Li,Lk,rfl,zq1n,zq1s,zq18⟩,zq03⟩
 have Q4:=A9 (st:=Dm) zq1z zq2a zq13;have Q8:=A9 (st:=Dr) zq23 zq2e zq17;have Nl:=A9 (st:=Cn) zq19 zq1f zq0d;have GW:=A9 (st:=Jo) zq4v zq54 zq3z;have dB:=A9 (st:=Gv) zq49 zq4h zq3e;have X3:=A9 (st:=Et) zq30 zq33 zq25;have DB:=A9 (st:=Gw) zq4a zq4i zq3f;have gY:=A9 (st:=Jr) zq4y zq57 zq42;have Ad6:=A9 (st:=Qa) zq5r zq5t zq5s;refine⟨W.fnOf "law" "law" (A0 Qa) (Ay Qa) (Ai Qa) .none qR QX qM qZ NU QY,fun s v=>.of_eq rfl,fun base _ _=>?_⟩;have Sy:Has l.prog w K mg base "is_whole" ["thing"] 1 (Id K):=⟨_,_,W.mg_of X G zq3r,zq2v,l9.binds (ps:=["thing"]) (fun _ _ _ _ _ _=>Os (fun _=>rfl)),BR l9 T ⟩
 have F4:Has l.prog w K mg base "shared_divisor" ["one","other"] 1 (p9 K):=⟨_,_,W.mg_of X G zq0x,zq04,L5.binds (ps:=["one","other"]) (fun _ _ _ _ _ _=>Ef (fun _ _=>rfl)),Qd L5 T ⟩
 have Dt:Has l.prog w K mg base "level_of" ["piece"] 1 (B2 K):=⟨_,_,W.mg_of X G zq3q,zq2u,l8.binds (ps:=["piece"]) (fun _ _ _ _ _ _=>Os (fun _=>rfl)),bR l8 T ⟩
 have K0:Has l.prog w K mg base "faces_agree" ["shape","faces"] 1 (Gz K):=⟨_,_,W.mg_of X G zq2g,zq11,Q2.binds (ps:=["shape","faces"]) (fun _ _ _ _ _ _=>Ef (fun _ _=>rfl)),V3 Q2 T ⟩
 have N3:Has l.prog w K mg base "add_at" ["chain","place","number"] 1 (Jh K):=⟨_,_,W.mg_of X G zq58,zq3v,gU.binds (ps:=["chain","place","number"]) (fun _ _ _ _ _ _=>Qu (fun _ _ _=>rfl)),IF gU T ⟩
 have AJ:Has l.prog w K mg base "times" ["number","chain"] 1 (Vf K):=⟨_,_,W.mg_of X G zq5i,zq4z,oF.binds (ps:=["number","chain"]) (fun _ _ _ _ _ _=>Ef (fun _ _=>rfl)),LR oF T ⟩
 have Pi:UB l.prog w K mg base Ak Al ["self","place"] 1 (Fz K Ak):=⟨_,_,⟨⟨Gy,Kp,Nw,Lf,Kj,Ic,Lh,Io,Le,Kx,Kw,Kv,Ku,Kt,eo_NoPiece,en_NoPiece,ei_NoPiece⟩,et_NoPiece,zq00,es_NoPiece⟩,kc_NoPiece,L7.binds (ps:=["self","place"]) (fun _ _ _ _ _ _=>Ef (fun _ _=>rfl)),Qf L7 T ⟩
 have Ky:HasX l.prog w K mg base "check_size" ["pieces"] 1 (Iv K Am):=⟨_,_,W.mg_of X G zq2s,zq1i,T4.binds (ps:=["pieces"]) (fun _ _ _ _ _ _=>Os (fun _=>rfl)),Yp T4 T ⟩
 have Hl:Has l.prog w K mg base "counted" ["chain","prime"] 1 (Kf K):=⟨_,_,W.mg_of X G zq4j,zq38,CW.binds (ps:=["chain","prime"]) (fun _ _ _ _ _ _=>Ef (fun _ _=>rfl)),DY CW T ⟩
 have En:J9 l.prog w K mg base Ab "take_back" ["self"] 1 (Vk K Ab):=⟨_,_,⟨zq0g,zq09,zq02⟩,Iu.binds (ps:=["self"]) (fun _ _ _ _ _ _=>Os (fun _=>rfl)),Oe Iu T ⟩
 have Hi:J9 l.prog w K mg base Ab "shape" ["self"] 1 (Rt K Ab):=⟨_,_,⟨zq1t,zq1c,zq0j⟩,O2.binds (ps:=["self"]) (fun _ _ _ _ _ _=>Os (fun _=>rfl)),Uh O2 T ⟩
 have B5:J9 l.prog w K mg base Ab "pairs" ["self"] 1 (Nr K Ab):=⟨_,_,⟨zq1v,zq1e,zq0l⟩,O4.binds (ps:=["self"]) (fun _ _ _ _ _ _=>Os (fun _=>rfl)),Uj O4 T ⟩
 have N2:Has l.prog w K mg base "is_alive" ["pair","stage"] 1 (Rl K):=⟨_,_,W.mg_of X G zq3t,zq2x,m7.binds (ps:=["pair","stage"]) (fun _ _ _ _ _ _=>Ef (fun _ _=>rfl)),BS m7 T ⟩
 have Br:Has l.prog w K mg base "_law_whole" ["_law_found"] 1 (D0 K):=⟨_,_,W.mg_of X G zq4k,zq39,cX.binds (ps:=["_law_found"]) (fun _ _ _ _ _ _=>Os (fun _=>rfl)),dZ cX T ⟩
 have Hm:Has l.prog w K mg base "_law_cell_at" ["_law_script","_law_k"] 1 (Kh K):=⟨_,_,W.mg_of X G zq37,zq26,X4.binds (ps:=["_law_script","_law_k"]) (fun _ _ _ _ _ _=>Ef (fun _ _=>rfl)),y4 X4 T ⟩
 have Ct:Has l.prog w K mg base "_law_level" ["_law_piece"] 1 (B2 K):=⟨_,_,W.mg_of X G zq4o,zq3d,CZ.binds (ps:=["_law_piece"]) (fun _ _ _ _ _ _=>Os (fun _=>rfl)),EC CZ T ⟩
 have Jy:Has l.prog w K mg base "_law_meets" ["_law_pieces","_law_faces","_law_face"] 1 (No K):=⟨_,_,W.mg_of X G zq4n,zq3c,cZ.binds (ps:=["_law_pieces","_law_faces","_law_face"]) (fun _ _ _ _ _ _=>Qu (fun _ _ _=>rfl)),EB cZ T ⟩
 have K2:Has l.prog w K mg base "_law_pick" ["_law_cell","_law_j","_law_many"] 1 (Np K):=⟨_,_,W.mg_of X G zq5a,zq3x,GV.binds (ps:=["_law_cell","_law_j","_law_many"]) (fun _ _ _ _ _ _=>Qu (fun _ _ _=>rfl)),IG GV T ⟩
 have Qr:Has l.prog w K mg base "_law_prime" ["_law_cell"] 1 (Mg K):=⟨_,_,W.mg_of X G zq4m,zq3b,CY.binds (ps:=["_law_cell"]) (fun _ _ _ _ _ _=>Os (fun _=>rfl)),EA CY T ⟩
 have AL:Has l.prog w K mg base "_law_edge" ["_law_pieces","_law_paper","_law_prime_here"] 1 (Vi K):=⟨_,_,W.mg_of X G zq5e,zq41,GX.binds (ps:=["_law_pieces","_law_paper","_law_prime_here"]) (fun _ _ _ _ _ _=>Qu (fun _ _ _=>rfl)),iJ GX T ⟩
 have Sz:Has l.prog w K mg base "_law_misfit" ["_law_pieces","_law_cell"] 1 (O5 K):=⟨_,_,W.mg_of X G zq3u,zq2y,m8.binds (ps:=["_law_pieces","_law_cell"]) (fun _ _ _ _ _ _=>Ef (fun _ _=>rfl)),bT m8 T ⟩
 have A4:Has l.prog w K mg base "is_whole_below" ["thing","bound"] 2 (Bv K):=⟨_,_,W.mg_of X G zq0y,zq05,L6.binds (ps:=["thing","bound"]) (fun _ _ _ _ _ _=>Ef (fun _ _=>rfl)),Qe L6 T Sy⟩
 have GG:Has l.prog w K mg base "plus" ["one","other"] 2 (p6 K):=⟨_,_,W.mg_of X G zq5p,zq5j,RC.binds (ps:=["one","other"]) (fun _ _ _ _ _ _=>Ef (fun _ _=>rfl)),pI RC T N3⟩
 have Pj:Has l.prog w K mg base "add_faces" ["chain","faces","number"] 2 (Kg K):=⟨_,_,W.mg_of X G zq35,zq24,X2.binds (ps:=["chain","faces","number"]) (fun _ _ _ _ _ _=>Qu (fun _ _ _=>rfl)),x9 X2 T N3⟩
 have Kz:Has l.prog w K mg base "turned_over" ["number","prime"] 2 (Vg K):=⟨_,_,W.mg_of X G zq2f,zq10,Q1.binds (ps:=["number","prime"]) (fun _ _ _ _ _ _=>Ef (fun _ _=>rfl)),V2 Q1 T F4⟩
 have aL:Has l.prog w K mg base "_law_fits" ["_law_pieces","_law_thing"] 2 (Rk K):=⟨_,_,W.mg_of X G zq5d,zq40,gX.binds (ps:=["_law_pieces","_law_thing"]) (fun _ _ _ _ _ _=>Ef (fun _ _=>rfl)),II gX T Ct Jy Br⟩
 have aK:Has l.prog w K mg base "_law_side" ["_law_pieces","_law_cell"] 2 (Rm K):=⟨_,_,W.mg_of X G zq59,zq3w,GU.binds (ps:=["_law_pieces","_law_cell"]) (fun _ _ _ _ _ _=>Ef (fun _ _=>rfl)),iG GU T K2⟩
 have M6:Has l.prog w K mg base "_law_is_paper" ["_law_pieces","_law_paper","_law_place","_law_prime_here"] 2 (Mh K):=⟨_,_,W.mg_of X G zq2t,zq1j,T5.binds (ps:=["_law_pieces","_law_paper","_law_place","_law_prime_here"]) (fun _ _ _ _ _ _=>GJ (fun _ _ _ _=>rfl)),Yq T5 T Ct Br⟩
 have K4:Has l.prog w K mg base "_law_are_pairs" ["_law_found","_law_due"] 2 (Ke K):=⟨_,_,W.mg_of X G zq2k,zq15,Q6.binds (ps:=["_law_found","_law_due"]) (fun _ _ _ _ _ _=>Ef (fun _ _=>rfl)),V7 Q6 T Br⟩
 have K5:Has l.prog w K mg base "_law_alive_due" ["_law_pieces","_law_due","_law_level_here","_law_stage"] 2 (o0 K):=⟨_,_,W.mg_of X G zq2l,zq16,Q7.binds (ps:=["_law_pieces","_law_due","_law_level_here","_law_stage"]) (fun _ _ _ _ _ _=>GJ (fun _ _ _ _=>rfl)),V8 Q7 T Ct⟩
 have W0:Has l.prog w K mg base "_law_taken" ["_law_growth","_law_pieces","_law_many"] 2 (Ro K Ab):=⟨_,_,W.mg_of X G zq4l,zq3a,cY.binds (ps:=["_law_growth","_law_pieces","_law_many"]) (fun _ _ _ _ _ _=>Qu (fun _ _ _=>rfl)),DZ cY T En⟩
 have K3:Has l.prog w K mg base "_law_is_misfit" ["_law_told","_law_many"] 2 (Kd K):=⟨_,_,W.mg_of X G zq2j,zq14,Q5.binds (ps:=["_law_told","_law_many"]) (fun _ _ _ _ _ _=>Ef (fun _ _=>rfl)),V6 Q5 T Br⟩
 have Eo:Has l.prog w K mg base "is_place_of_level" ["shape","thing","level"] 3 (Dz K):=⟨_,_,W.mg_of X G zq0b,zq01,Hw.binds (ps:=["shape","thing","level"]) (fun _ _ _ _ _ _=>Qu (fun _ _ _=>rfl)),Mt Hw T A4 Dt⟩
 have Gi:Has l.prog w K mg base "check_level" ["k","bound"] 3 (Ri K):=⟨_,_,W.mg_of X G zq2h,zq12,Q3.binds (ps:=["k","bound"]) (fun _ _ _ _ _ _=>Ef (fun _ _=>rfl)),V4 Q3 T A4⟩
 have N1:Has l.prog w K mg base "is_prime" ["thing"] 3 (Rj K):=⟨_,_,W.mg_of X G zq3s,zq2w,m6.binds (ps:=["thing"]) (fun _ _ _ _ _ _=>Os (fun _=>rfl)),bS m6 T A4⟩
 have Fk:J9 l.prog w K mg base Ab "settled" ["self","sheet","edge"] 3 (Mi K Ab):=⟨_,_,⟨zq0z,zq0i,zq06⟩,L8.binds (ps:=["self","sheet","edge"]) (fun _ _ _ _ _ _=>Qu (fun _ _ _=>rfl)),Qg L8 T Hl Kz GG AJ⟩
 have C8:J9 l.prog w K mg base Ab "paper" ["self","place"] 3 (Nq K Ab):=⟨_,_,⟨zq1u,zq1d,zq0k⟩,O3.binds (ps:=["self","place"]) (fun _ _ _ _ _ _=>Ef (fun _ _=>rfl)),Ui O3 T A4⟩
 have AK:Has l.prog w K mg base "_law_next" ["_law_pieces","_law_cell"] 3 (Rn K):=⟨_,_,W.mg_of X G zq5b,zq3y,gW.binds (ps:=["_law_pieces","_law_cell"]) (fun _ _ _ _ _ _=>Ef (fun _ _=>rfl)),iH gW T aK Jy K2 Ct⟩
 have mV:Has l.prog w K mg base "fits" ["shape","thing"] 4 (Vh K):=⟨_,_,W.mg_of X G zq5q,zq5k,RD.binds (ps:=["shape","thing"]) (fun _ _ _ _ _ _=>Ef (fun _ _=>rfl)),pJ RD T Dt K0 Eo⟩
 have Wy:rC l.prog w K mg base Ab ["self","prime"] [.int 2] 4 (Ml K Ab):=⟨_,_,[.int 2 Dc],⟨mk_Growth,zq0h,zq07,kc_Growth⟩,E5.binds (ps:=["self","prime"]) (dd:=[.int 2 Dc]) (fun _ _ _ _ _ _ _ us hl=>by obtain⟨x,rfl⟩:∃x,us=[x]:=List.length_eq_one_iff.mp (by simpa using hl);exact⟨_,rfl,rfl⟩),.cons ⟨_,rfl⟩ (.nil),Jv E5 T N1⟩
 have Nz:uC l.prog w K mg base Ab ["self","prime"] 4 (Ml K Ab):=⟨_,_,⟨mk_Growth,zq0h,zq07,kc_Growth⟩,E5.binds (ps:=["self","prime"]) (dd:=[]) (fun _ _ _ _ _ _ _ us hl=>by obtain⟨x,y,rfl⟩:∃x y,us=[x,y]:=mJ (by simpa using hl);exact⟨_,rfl,rfl⟩),Jv E5 T N1⟩
 have Fj:OD l.prog w K mg base Ab "alive" ["self","k","stage"] [.non] 4 (Ji K Ab):=⟨_,_,[.none],⟨zq0m,zq0e,zq03⟩,Fu.binds (ps:=["self","k","stage"]) (dd:=[.none]) (fun _ _ _ _ _ _ _ us hl=>by obtain⟨x,y,rfl⟩:∃x y,us=[x,y]:=mJ (by simpa using hl);exact⟨_,rfl,rfl⟩),.cons rfl (.nil),Lp Fu T Gi A4 B5 Dt N2⟩
 have Hj:J9 l.prog w K mg base Ab "alive" ["self","k","stage"] 4 (Ji K Ab):=⟨_,_,⟨zq0m,zq0e,zq03⟩,Fu.binds (ps:=["self","k","stage"]) (dd:=[]) (fun _ _ _ _ _ _ _ us hl=>by obtain⟨x,y,z,rfl⟩:∃x y z,us=[x,y,z]:=MJ (by simpa using hl);exact⟨_,rfl,rfl⟩),Lp Fu T Gi A4 B5 Dt N2⟩
 have Ee:Has l.prog w K mg base "_law_pairs_due" ["_law_growth","_law_pieces","_law_prime_here"] 4 (Uz K Ab):=⟨_,_,W.mg_of X G zq2i,zq13,Q4.binds (ps:=["_law_growth","_law_pieces","_law_prime_here"]) (fun _ _ _ _ _ _=>Qu (fun _ _ _=>rfl)),V5 Q4 T C8 M6 AL⟩
 have E2:CU l.prog w K mg base Ab "grow" ["self","thing"] 5 (spZ_grow K Ab Ak Am):=⟨_,_,⟨zq2m,zq1o,zq17⟩,Q8.binds (ps:=["self","thing"]) (fun _ _ _ _ _ _=>Ef (fun _ _=>rfl)),V9 Q8 T Ky Pj Fk mV Pi Hl⟩
 have Ds:J9 l.prog w K mg base Ab "grow" ["self","thing"] 5 (Ki K Ab):=E2.down (growZ_down);have Hn:Has l.prog w K mg base "_law_alive_right" ["_law_growth","_law_pieces","_law_due","_law_turn"] 5 (Rp K Ab):=⟨_,_,W.mg_of X G zq1h,zq0d,Nl.binds (ps:=["_law_growth","_law_pieces","_law_due","_law_turn"]) (fun _ _ _ _ _ _=>GJ (fun _ _ _ _=>rfl)),Sb Nl T Fj Hj Br K5⟩
 have N4:Has l.prog w K mg base "_law_look" ["_law_growth","_law_pieces","_law_prime_here","_law_turn","_law_held"] 6 (P6 K Ab):=⟨_,_,W.mg_of X G zq5c,zq3z,GW.binds (ps:=["_law_growth","_law_pieces","_law_prime_here","_law_turn","_law_held"]) (fun _ _ _ _ _ _=>WM (fun _ _ _ _ _=>rfl)),iI GW T B5 Ee C8 K4 Hn Hi⟩
 have W1:Has l.prog w K mg base "_law_grown" ["_law_growth","_law_pieces","_law_prime_here","_law_thing"] 6 (Rq K Ab):=⟨_,_,W.mg_of X G zq4p,zq3e,dB.binds (ps:=["_law_growth","_law_pieces","_law_prime_here","_law_thing"]) (fun _ _ _ _ _ _=>GJ (fun _ _ _ _=>rfl)),ED dB T Ds Ee Br⟩
 have K1:Has l.prog w K mg base "_law_refused" ["_law_growth","_law_thing"] 6 (Mj K Ab):=⟨_,_,W.mg_of X G zq36,zq25,X3.binds (ps:=["_law_growth","_law_thing"]) (fun _ _ _ _ _ _=>Ef (fun _ _=>rfl)),y3 X3 T E2⟩
 have W2:Has l.prog w K mg base "_law_begun" ["_law_growth","_law_many"] 6 (Rr K Ab):=⟨_,_,W.mg_of X G zq4q,zq3f,DB.binds (ps:=["_law_growth","_law_many"]) (fun _ _ _ _ _ _=>Ef (fun _ _=>rfl)),eE DB T Ds⟩
 have aM:Has l.prog w K mg base "_law_deed" ["_law_growth","_law_pieces","_law_prime_here","_law_cell","_law_most","_law_held"] 7 (Vj K Ab):=⟨_,_,W.mg_of X G zq5f,zq42,gY.binds (ps:=["_law_growth","_law_pieces","_law_prime_here","_law_cell","_law_most","_law_held"]) (fun _ _ _ _ _ _=>wM (fun _ _ _ _ _ _=>rfl)),IJ gY T AK W0 aL K3 N4 W1 K1 Sz⟩
 exact sD Ad6 T Qr Wy Nz W2 aM Hm N4
theorem walk{l:PySem.W.OpenLaw}{q:Program}{loose:List Str}{XP:(Str->Option Value)->Heap->Prop}{YP:World->Heap->Prop}{d:DefRec}{K:Params->PySem.W.Frag}(hn:l.most=some 63)(hdf:d.params.defaults=[])
 (hY:∀(w:World) (h:Heap),YP w h->(K w.params).In h)
 (F:∀(w:World) (mg:Str->Option Value) (fa:Addr) (h:Heap),(K w.params).In h->h.Ns mainGlobals mg->mg d.name=some (.ref fa) →
   ∃fd:FuncData,(∀(s:Shared) (u:Value),BindsTo s fd ⟨[u],[]⟩ [("_law_script",u)])/\∀base:Heap,(K w.params).In base->base.Ns mainGlobals mg->Bj l.prog w (K w.params) mg base Er 8 fa fd ["_law_script"] (p7 (K w.params))) :
 PySem.W.WalkO q loose XP YP l.row.toRowW d [] (fun f vs=>PySem.call f vs) :=
 L2.walk_of (n:=63) (k:=8) (x:="_law_script") (CX:=fun _=>Er) (sp:=fun w=>p7 (K w.params)) hn (by decide) hdf ⟨rfl,by decide,by decide,rfl⟩ hY F (fun _ _ a ns hl _ hS=>⟨a,ns,rfl,hS,hl,fun _=>rfl⟩) fun _ _ _ _ _ z=>z
end Hb
structure PySem.W.Fast:Prop where(tw7586218562099969244 tw11376287129099212329 tw8216747903200827183 tw16086401492154839659 tw11543655651167482773 tw2093289559450187052 tw16957697208234710221 tw10538017286784940638 tw5127419189308323687 tw3678180252850871929 tw9949385849228800237 tw5964773458427281541 tw14636865622600566756 tw216259947268578797 tw12845078509071839439 tw11617481479370776663 tw8840130552426724317 tw14092902255168305684 tw12764254079815147026 tw5003703961381601665 tw960461860249639640 tw151901435750394066 tw1336302679214779237 tw7806258617748807703 tw16232403742127175495 tw14754358822365502982 tw7704714790246788494 tw4045765918066685014 tw18128543628592958195 tw4954563039113752933 tw4521009030658766531 tw1268435420365055712 tw2462196108937092550 tw16653284624312455573 tw3377831054098486534 tw5548316646592404596 tw2243225672639949782 tw1681914265068025259 tw13733991952002807002 tw18061346637350293170 tw15205184168513432915 tw3794682417708915424 tw7621459492033719278 tw13843621464588155600 tw3146315237055088551 tw13568561216629331954 tw6711367224396625651 tw7604495254238861633 tw3463036509021928036 tw2673235014373442154 tw13599217921510265076 tw10287880128049248940 tw9708713023695434540 tw8437287992165364438 tw3834953971689614791 tw2240080040702920721 tw239869224091924802 tw12921448689939785531 tw3166109082281975821 tw13008642617056895283 tw14666980920239145970 tw5287087586615500137 tw11690587624088455941 tw6639370971459960284 tw14268947220922506850 tw14170572734380613392 tw6776939692115902805 tw2929926181414080788 tw3540889868503804111 tw5784382970151187796 tw5640554342514628668 tw8869381274043858994 tw10195342503217112292 tw15693162760527003229 tw3557140945634333055 tw3931653649030960310 tw9775905838648039924 tw13035160327256666991 tw18316203533902330903 tw1972692761327913168 tw3118640547685459051 tw11256600870163085617 tw265320327510378028 tw10862228833464923649 tw12275666713040649776 tw12116118460166876979 tw12488357515954948208 tw4417262251487198407 tw6083420665424343011 tw13571977160832931923 tw11629542468308189647 tw10605001520220943690 tw8854747783623675490 tw5553925244433230971 tw12425818941822939930 tw13076163873835765525 tw3089034456405932018 tw8056854267266984816 tw8911926874253902743 tw7583966970010804976 tw3989970173401913485 tw1160476749531492626 tw12892023453606784077 tw5273956570306008479 tw11590720135357578108 tw9965705206448212880 tw12625165189588667041 tw299437981255925795 tw14452573743598108565 tw6258584574510185212 tw16198502611631096556 tw1209186965445399310 tw10795342844234950909 tw1931582287952363589 tw781706889090851978 tw13558318212160893284 tw1768047939055349250 tw7976363553152458443 tw4997740916272398499 tw5808136536768717031 tw13775566450951241769 tw4492152256198209863 tw15628784077740945876 tw487270916266498086 tw17257657706349816361 tw1354911005032790191 tw8123321552522568541 tw11111356194528601244 tw7127806692678731846 tw15844255158893023943 tw7552962265622516806 tw12053497057680570434 tw1334688787914032553 tw3628578259307631558 tw9809418425797389734 tw9850636966402580561 tw6757968376277223275 tw17594118382201721553 tw13603846687958376721 tw15028315824019818142 tw16834290681187258234 tw61620315803335002 tw4254072424137079217 tw6701830665319362853 tw709148459428977429 tw903510302181058771 tw12296339860851338408 tw6943681827001149584 tw4803210027772856556 tw6605008329752832936 tw13780473625682010223 tw8409951148895736335 tw4569276725694081020 tw3876013241887844116 tw11567907199013609621 tw18080535861398394149 tw1617893716783297281 tw3885591885871541913 tw3681318387041045840 tw7837288119180433717 tw6452938359392674843 tw11377364388564475734 tw18060778531742513155 tw14332424880919465237 tw15829826397084833222 tw17887310042517980513 tw4024711049490959882 tw18281810399295810150 tw6887246375812572291 tw3298917614198856839 tw9002354816012901887 tw8404887774097273983 tw7954559411819813547 tw6942835984220685165 tw11245971511238274334 tw17019232006768379858 tw1037945830549079370 tw12934975989476636154 tw18129061728410220581 tw7395365084241393146 tw9548357762742488088 tw5141066819174780312 tw14843624389145452646 tw9936229826218187194 tw9103635691150951074 tw13066440028455584426 tw16435326435103856352 tw5764714034911425911 tw13106496758049596565 tw17328125790986290628 tw2477541092450054172 tw7938101394160256807 tw1534488401068978445 tw12323209647698980932 tw8964606849764803977 tw555939126109698459 tw5608941348966317567 tw16992579088709431649 tw13449821208701887607 tw140532647567268361 tw7832496110479475076 tw3892560242944894747 tw9622240369114428535 tw10062888338726113887 tw11214437366678240329 tw9799863575925671834 tw6045021363838988653 tw16987560482132484456 tw16418126367541947744 tw15746382802939796796 tw3954406155884969331 tw14582906278417885073 tw13450063205138679500 tw14382041706737083627 tw1917625637732994310 tw268961278518005577 tw37233149025512300 tw6160104387555780396 tw10354417481524873683 tw16713518975479238794 tw7554246941099510945 tw15290116240346107482 tw8866928899638002200 tw11056235148432387643 tw10417440039794380356 tw17986954859003003609 tw17138816386434073670 tw2644814786244265379 tw6523688166598967790 tw9997711137663614820 tw7654926450708988663 tw14614600560877351664 tw14534660210735644665 tw4644593730356011656 tw4734595694580503064 tw11938042986861155631 tw2775922444573083683 tw133425163818987908 tw13753897100341558194 tw16731787737188285782 tw18319836526402865942 tw365793709509614501 tw17351791341541023186 tw15243430326295514329 tw4066953540812527578 tw6301804368189203366 tw9326303729130853262 tw5030194535221567146 tw14486208046984454965 tw13067621160464367385 tw8830311049579287731 tw17082942059611877062 tw6275538606838938701 tw5676192826653736957 tw647997658109701114 tw3633541799911407980 tw16988138790348391518 tw5315159164757090296 tw1566009600487757222 tw14790054753050557548 tw16235882346060004199 tw18408755446797713301 tw1931152290458259309 tw1873713451119695755 tw2439712784524123776 tw15848655746372172791 tw6388601693630923315 tw12645836517998578239 tw11645080043880280091 tw8559230849626379144 tw2745974103202993326 tw7656928082400321135 tw17861433650730339516 tw3189601099682556978 tw15660103322187855163 tw14268746401900667664 tw5748025716045423931 tw511892731661417963 tw12432700364514234932 tw2630334725048709104 tw6059715129531766480 tw14424469622066794770 tw11991850705754111078 tw2117131017475593984 tw11152082271683552434 tw3266950611864258850 tw177893406352961426 tw16450045560829481639 tw9848730136285076699 tw17474256006621536547 tw6134763079400823660 tw11223505096606480941 tw13988122771848836027 tw2507244330671776850 tw17838752421426633509 tw15052424803642697818 tw6692098243036411593 tw6440060892172531326 tw9798447835679981583 tw3144993511479408653 tw5168490989157368154 tw17299081881116657514 tw16906038730599455841 tw17938843393104748729 tw13845149241645444453 tw8197136862991638700 tw3696340107510133581 tw15555506415077450668 tw10045787703872737228 tw8580935579700418472 tw8499937225318906068 tw12605209302965637506 tw13369308696878692593 tw8424294115173077379 tw7344351230030661047 tw3253315646854029195 tw7430614870617216271 tw16399633653237701855 tw11637454084658659746 tw8329711512894515651 tw6179600555748250268 tw572033504153073033 tw4331454714233982341 tw11756753085353298583 tw7934533683028901218 tw4890525342726832175 tw606327702077846448 tw11087705455894008262 tw9086919316419973239 tw17135828646246238212 tw1283874897895938962 tw5358493454074750003 tw11380557398913328056 tw15833764713974129087 tw7687270338265173383 tw5616214358857078240 tw7728143316426049004 tw2674387320172390167 tw13232193820982359660 tw13884378353941126377 tw12026519498603244923 tw4849494682666749930 tw7094007854971485765 tw7066387292119017693 tw1871375127785009792 tw8250562490694041695 tw2780059760889745905 tw4322216662618574770 tw18110916670722423602 tw12906350813340300835 tw16285355528026832395 tw5325228246037202866 tw11526831202850103204 tw4931826801824648796 tw16987458456955255331 tw11469836035765782835 tw1077238959041360095 tw14213700511729922948 tw3535206821656265258 tw902621193335180878 tw3467297153086501956 tw9774922799799080770 tw587641952031610487 tw9722001885689482737 tw13979470567645359984 tw17149900036564584046 tw9885844663782692977 tw12786314647517235729 tw8858985366328020782 tw9909591339239529462 tw5475737662364391825 tw17157461519265370860 tw17952199547584302267 tw2600379104134845970 tw8739898000524595259 tw6555354730546128949 tw877010033141741497 tw7341118249970107259 tw17662885040683471426 tw9514492802475308087 tw1353738322333221931 tw6143613685582977518 tw880020794079789938 tw3215461137436713381 tw1808371939268818545 tw7480821246633204040 tw1203851418159846077 tw17105731465145818067 tw11660114605529107249 tw17219731357050752675 tw329071993771006963 tw4312642946665913598 tw4327769837781560162 tw812391644314625198 tw8575751724513350507 tw17029042647444916167 tw1476244348616576561 tw4852125023499674515 tw3310486795615940444 tw16203552320454090682 tw10077813229657690444 tw10557625139263530327 tw11890637053195410834 tw4848720774746160949 tw4301394515694552580 tw17837480158530132762 tw10824021064587474482 tw11617985966987855050 tw8003784556295161922 tw5270347211017060668 tw13897621449121753344 tw9733830961487364146 tw9809068550287898790 tw4259148687138905222 tw14826258222672813705 tw2746251350569187646 tw6147885663525001223 tw9983492375481764865 tw4991739922231288234 tw9432652380240092159 tw3540002285728566570 tw3794518067620542130 tw11523620087566736871 tw13915041489157672784 tw16138035632172484737 tw18166989514524149411 tw11434109763715016780 tw2541624559161431712 tw1312147668819093777 tw8410723026807626953 tw11529590127284056691 tw3563141484915056072 tw1445820694366258379 tw2534465610019577923 tw7280891761712412593 tw18290374572879285395 tw3499911549124750339 tw6777729077479350072 tw1866023186968637246 tw11871619186768615170 tw18383788053655929265 tw782953894093461 tw12540584238003297557 tw18134766954141186473 tw14696337605803238354 tw16922800423210128862 tw12609456447473283449 tw13993700780574135469 tw6008848508777197103 tw15144537422851609914 tw8452351934102208120 tw14386718571736122847 tw11398390904697106274 tw430503514877985288 tw10445038079327687572 tw7469367831117702549 tw12074587809800629962 tw2917880316500731734 tw12387683655001090604 tw7248879374113709625 tw8314346942405745216 tw17143443505442443236 tw5128824145073722631 tw1899773722635581339 tw14513857740539142311 tw12594731808884519878 tw13005352662763572811 tw6931984257030617994 tw16953801354951194449 tw5984445895688016248 tw8472111628585717714 tw15303752870942843064 tw41329676450989488 tw2195397234264573407:True)
open PySem PySem.W PyProof.Rows
set_option maxRecDepth 100000 in
set_option maxHeartbeats 0 in
theorem PySem.Challenge.cw_holebook_k58_taken_back_as_if_never_holds : PySem.Challenge.rw_holebook_k58_taken_back_as_if_never.Holds := by
 w_on;o_law;k_head;(case hw=>w_witness2)
 k_fill
 refine Hb.walk (l:=PySem.Challenge.rw_holebook_k58_taken_back_as_if_never) rfl rfl (fun w h Y=>PySem.W.kIn_of Y) ?F
 case F =>
  intro w mg fa h KX G hmg
  refine' Hb.all_mk KX G hmg ?ac_HoleError ?ac_NoShape ?ac_NoPiece ?ac_Growth ?zq3r ?zq3h ?zq3m ?zq2v ?zq0x ?zq0o ?zq0t ?zq04 ?zq3q ?zq3g ?zq3l ?zq2u ?zq2g ?zq1x ?zq28 ?zq11 ?zq58 ?zq4r ?zq50 ?zq3v ?zq5i ?zq5g ?zq5h ?zq4z ?zq2n ?zq00 ?zq0q ?zq0v ?zq0s ?zq2s ?zq2o ?zq2q ?zq1i ?zq4j ?zq43 ?zq4b ?zq38 ?zq0g ?zq09 ?zq0c ?zq0f ?zq02 ?zq1t ?zq1c ?zq1k ?zq1p ?zq0j ?zq1v ?zq1e ?zq1m ?zq1r ?zq0l ?zq3t ?zq3j ?zq3o ?zq2x ?zq4k ?zq44 ?zq4c ?zq39 ?zq37 ?zq31 ?zq34 ?zq26 ?zq4o ?zq48 ?zq4g ?zq3d ?zq4n ?zq47 ?zq4f ?zq3c ?zq5a ?zq4t ?zq52 ?zq3x ?zq4m ?zq46 ?zq4e ?zq3b ?zq5e ?zq4x ?zq56 ?zq41 ?zq3u ?zq3k ?zq3p ?zq2y ?zq0y ?zq0p ?zq0u ?zq05 ?zq5p ?zq5l ?zq5n ?zq5j ?zq35 ?zq2z ?zq32 ?zq24 ?zq2f ?zq1w ?zq27 ?zq10 ?zq5d ?zq4w ?zq55 ?zq40 ?zq59 ?zq4s ?zq51 ?zq3w ?zq2t ?zq2p ?zq2r ?zq1j ?zq2k ?zq21 ?zq2c ?zq15 ?zq2l ?zq22 ?zq2d ?zq16 ?zq4l ?zq45 ?zq4d ?zq3a ?zq2j ?zq20 ?zq2b ?zq14 ?zq0b ?zq08 ?zq0a ?zq01 ?zq2h ?zq1y ?zq29 ?zq12 ?zq3s ?zq3i ?zq3n ?zq2w ?zq0z ?zq0i ?zq0r ?zq0w ?zq06 ?zq1u ?zq1d ?zq1l ?zq1q ?zq0k ?zq5b ?zq4u ?zq53 ?zq3y ?zq5q ?zq5m ?zq5o ?zq5k ?zq0h ?zq07 ?zq1a ?zq0n ?zq1g ?zq1b ?zq0m ?zq0e ?zq1n ?zq18 ?zq1s ?zq03 ?zq2i ?zq1z ?zq2a ?zq13 ?zq2m ?zq1o ?zq23 ?zq2e ?zq17 ?zq1h ?zq19 ?zq1f ?zq0d ?zq5c ?zq4v ?zq54 ?zq3z ?zq4p ?zq49 ?zq4h ?zq3e ?zq36 ?zq30 ?zq33 ?zq25 ?zq4q ?zq4a ?zq4i ?zq3f ?zq5f ?zq4y ?zq57 ?zq42 ?zq5u ?zq5r ?zq5t ?zq5s ?mk_Growth ?kc_Growth ?kc_NoPiece ?eo_NoPiece ?en_NoPiece ?ei_NoPiece ?et_NoPiece ?es_NoPiece ?ae_NoShape ?ak_NoShape ?ak_NoPiece ?a1_NoPiece ?a2_NoPiece ?a3_NoPiece ?a4_NoPiece ?a5_NoPiece ?as_NoShape_NoShape ?as_NoShape_NoPiece ?as_NoPiece_NoPiece ?b1_HoleError ?b2_HoleError ?b3_HoleError ?na_NoPiece_place ?pg_Growth ?hd_Growth ?po_Growth ?sa_Growth ?na_Growth_prime ?na_Growth_pieces ?na_Growth_sheets ?na_Growth_edges ?na_Growth_enders ?ac_FACE_COUNTS ?lc_FACE_COUNTS ?aq_MOST_PIECES ?aq_PRIME_BOUND ?aq_LEVELS ?z_isinstance ?z_int ?z_bool ?z_tuple ?z_zip ?z_max ?z_len ?z_all ?z_range ?z_dict ?z_enumerate ?z_list
  (case ac_HoleError=>k_is);(case ac_NoShape=>k_is);(case ac_NoPiece=>k_is);(case ac_Growth=>k_is)
  (case ac_FACE_COUNTS=>k_is);(case zq3r=>k_is);(case zq3h=>k_is);(case zq3m=>k_is)
  (case zq2v=>k_is);(case zq0x=>k_is);(case zq0o=>k_is);(case zq0t=>k_is)
  (case zq04=>k_is);(case zq3q=>k_is);(case zq3g=>k_is);(case zq3l=>k_is)
  (case zq2u=>k_is);(case zq2g=>k_is);(case zq1x=>k_is);(case zq28=>k_is)
  (case zq11=>k_is);(case zq58=>k_is);(case zq4r=>k_is);(case zq50=>k_is)
  (case zq3v=>k_is);(case zq5i=>k_is);(case zq5g=>k_is);(case zq5h=>k_is)
  (case zq4z=>k_is);(case zq2n=>k_is);(case zq00=>k_is);(case zq0q=>k_is)
  (case zq0v=>k_is);(case zq0s=>k_is);(case zq2s=>k_is);(case zq2o=>k_is)
  (case zq2q=>k_is);(case zq1i=>k_is);(case zq4j=>k_is);(case zq43=>k_is)
  (case zq4b=>k_is);(case zq38=>k_is);(case zq0g=>k_is);(case zq09=>k_is)
  (case zq0c=>k_is);(case zq0f=>k_is);(case zq02=>k_is);(case zq1t=>k_is)
  (case zq1c=>k_is);(case zq1k=>k_is);(case zq1p=>k_is);(case zq0j=>k_is)
  (case zq1v=>k_is);(case zq1e=>k_is);(case zq1m=>k_is);(case zq1r=>k_is)
  (case zq0l=>k_is);(case zq3t=>k_is);(case zq3j=>k_is);(case zq3o=>k_is)
  (case zq2x=>k_is);(case zq4k=>k_is);(case zq44=>k_is);(case zq4c=>k_is)
  (case zq39=>k_is);(case zq37=>k_is);(case zq31=>k_is);(case zq34=>k_is)
  (case zq26=>k_is);(case zq4o=>k_is);(case zq48=>k_is);(case zq4g=>k_is)
  (case zq3d=>k_is);(case zq4n=>k_is);(case zq47=>k_is);(case zq4f=>k_is)
  (case zq3c=>k_is);(case zq5a=>k_is);(case zq4t=>k_is);(case zq52=>k_is)
  (case zq3x=>k_is);(case zq4m=>k_is);(case zq46=>k_is);(case zq4e=>k_is)
  (case zq3b=>k_is);(case zq5e=>k_is);(case zq4x=>k_is);(case zq56=>k_is)
  (case zq41=>k_is);(case zq3u=>k_is);(case zq3k=>k_is);(case zq3p=>k_is)
  (case zq2y=>k_is);(case zq0y=>k_is);(case zq0p=>k_is);(case zq0u=>k_is)
  (case zq05=>k_is);(case zq5p=>k_is);(case zq5l=>k_is);(case zq5n=>k_is)
  (case zq5j=>k_is);(case zq35=>k_is);(case zq2z=>k_is);(case zq32=>k_is)
  (case zq24=>k_is);(case zq2f=>k_is);(case zq1w=>k_is);(case zq27=>k_is)
  (case zq10=>k_is);(case zq5d=>k_is);(case zq4w=>k_is);(case zq55=>k_is)
  (case zq40=>k_is);(case zq59=>k_is);(case zq4s=>k_is);(case zq51=>k_is)
  (case zq3w=>k_is);(case zq2t=>k_is);(case zq2p=>k_is);(case zq2r=>k_is)
  (case zq1j=>k_is);(case zq2k=>k_is);(case zq21=>k_is);(case zq2c=>k_is)
  (case zq15=>k_is);(case zq2l=>k_is);(case zq22=>k_is);(case zq2d=>k_is)
  (case zq16=>k_is);(case zq4l=>k_is);(case zq45=>k_is);(case zq4d=>k_is)
  (case zq3a=>k_is);(case zq2j=>k_is);(case zq20=>k_is);(case zq2b=>k_is)
  (case zq14=>k_is);(case zq0b=>k_is);(case zq08=>k_is);(case zq0a=>k_is)
  (case zq01=>k_is);(case zq2h=>k_is);(case zq1y=>k_is);(case zq29=>k_is)
  (case zq12=>k_is);(case zq3s=>k_is);(case zq3i=>k_is);(case zq3n=>k_is)
  (case zq2w=>k_is);(case zq0z=>k_is);(case zq0i=>k_is);(case zq0r=>k_is)
  (case zq0w=>k_is);(case zq06=>k_is);(case zq1u=>k_is);(case zq1d=>k_is)
  (case zq1l=>k_is);(case zq1q=>k_is);(case zq0k=>k_is);(case zq5b=>k_is)
  (case zq4u=>k_is);(case zq53=>k_is);(case zq3y=>k_is);(case zq5q=>k_is)
  (case zq5m=>k_is);(case zq5o=>k_is);(case zq5k=>k_is);(case zq0h=>k_is)
  (case zq07=>k_is);(case zq1a=>k_is);(case zq0n=>k_is);(case zq1g=>k_is)
  (case zq1b=>k_is);(case zq0m=>k_is);(case zq0e=>k_is);(case zq1n=>k_is)
  (case zq18=>k_is);(case zq1s=>k_is);(case zq03=>k_is);(case zq2i=>k_is)
  (case zq1z=>k_is);(case zq2a=>k_is);(case zq13=>k_is);(case zq2m=>k_is)
  (case zq1o=>k_is);(case zq23=>k_is);(case zq2e=>k_is);(case zq17=>k_is)
  (case zq1h=>k_is);(case zq19=>k_is);(case zq1f=>k_is);(case zq0d=>k_is)
  (case zq5c=>k_is);(case zq4v=>k_is);(case zq54=>k_is);(case zq3z=>k_is)
  (case zq4p=>k_is);(case zq49=>k_is);(case zq4h=>k_is);(case zq3e=>k_is)
  (case zq36=>k_is);(case zq30=>k_is);(case zq33=>k_is);(case zq25=>k_is)
  (case zq4q=>k_is);(case zq4a=>k_is);(case zq4i=>k_is);(case zq3f=>k_is)
  (case zq5f=>k_is);(case zq4y=>k_is);(case zq57=>k_is);(case zq42=>k_is)
  (case zq5u=>k_is);(case zq5r=>k_is);(case zq5t=>k_is);(case zq5s=>k_is)
  (case mk_Growth=>k_is);(case kc_Growth=>k_is);(case kc_NoPiece=>k_is);(case eo_NoPiece=>k_is)
  (case en_NoPiece=>first | k_is | k_qdec | kernel_rfl | decide +kernel);(case ei_NoPiece=>k_is);(case et_NoPiece=>first | k_is | k_qdec | kernel_rfl | decide +kernel);(case es_NoPiece=>k_is)
  (case ae_NoShape=>k_exc);(case ak_NoShape=>kts_isx);(case ak_NoPiece=>kts_isx);(case a1_NoPiece=>k_is)
  (case a2_NoPiece=>k_is);(case a3_NoPiece=>k_is);(case a4_NoPiece=>k_is);(case a5_NoPiece=>k_is)
  (case as_NoShape_NoShape=>k_is);(case as_NoShape_NoPiece=>k_is);(case as_NoPiece_NoPiece=>k_is);(case b1_HoleError=>first | k_is | k_qdec | kernel_rfl | decide +kernel)
  (case b2_HoleError=>first | k_is | k_qdec | kernel_rfl | decide +kernel);(case b3_HoleError=>first | k_is | k_qdec | kernel_rfl | decide +kernel);(case na_NoPiece_place=>k_is);(case pg_Growth=>k_is)
  (case hd_Growth=>k_is);(case po_Growth=>k_is);(case sa_Growth=>k_is);(case na_Growth_prime=>k_is)
  (case na_Growth_pieces=>k_is);(case na_Growth_sheets=>k_is);(case na_Growth_edges=>k_is);(case na_Growth_enders=>k_is)
  (case lc_FACE_COUNTS=>k_is);(case aq_MOST_PIECES=>k_is);(case aq_PRIME_BOUND=>k_is);(case aq_LEVELS=>k_is)
  (case z_isinstance=>k_is);(case z_int=>k_is);(case z_bool=>k_is);(case z_tuple=>k_is)
  (case z_zip=>k_is);(case z_max=>k_is);(case z_len=>k_is);(case z_all=>k_is)
  (case z_range=>k_is);(case z_dict=>k_is);(case z_enumerate=>k_is);(case z_list=>k_is)
