import PyProof.Rows.All
import Wide.All
import OpenK.AllK
import Wide.FinOn
import Lean
import PyProof.EqAt
import PyProof.EqKinds
import PyProof.TupleCall
import PySem.Challenge.RW_holebook_k55_papers_force_the_pairs
set_option linter.all false
set_option Elab.async false
set_option maxRecDepth 100000
set_option maxHeartbeats 4000000
noncomputable section
namespace L2
open PySem PySem.Spec PyProof.Rows
abbrev Key := Sum Int Str
def i5 : Key -> Value -> Bool
 | .inl k,v => Value.isInt k v
 | .inr x,v => Value.isStrOf x v
def keyH (w : World) : Key -> Int
 | .inl k => hashInt k
 | .inr x => hashStr w x
theorem Bq : ∀ {k : Key} {v : Value},i5 k v = true -> (∃ i t,k = Sum.inl i /\ v = Value.int i t) \/ (∃ x t,k = Sum.inr x /\ v = Value.str x t)
 | .inl i,v,h => by
   obtain ⟨t,e⟩ := Value.isInt_shape (k := i) (v := v) h
   exact .inl ⟨i,t,rfl,e⟩
 | .inr x,v,h => by
   obtain ⟨t,e⟩ := Value.isStrOf_shape (x := x) (v := v) h
   exact .inr ⟨x,t,rfl,e⟩
theorem Ag1 (i : Int) (t : Tok) : i5 (.inl i) (.int i t) = true := by simp [i5,Value.isInt]
theorem Ag0 (x : Str) (t : Tok) : i5 (.inr x) (.str x t) = true := by simp [i5,Value.isStrOf]
theorem A66 (a b : Int) : decide ((Sum.inl a : Key) = Sum.inl b) = (a == b) := by
 by_cases e : a = b
 . subst e; simp
 . have h : ¬ (Sum.inl a : Key) = Sum.inl b := fun q => e (Sum.inl.inj q)
   rw [decide_eq_false h]
   exact (beq_eq_false_iff_ne.mpr e).symm
theorem A63 (a b : Str) : decide ((Sum.inr a : Key) = Sum.inr b) = decide (a = b) := by
 by_cases e : a = b
 . subst e; simp
 . have h : ¬ (Sum.inr a : Key) = Sum.inr b := fun q => e (Sum.inr.inj q)
   rw [decide_eq_false h,decide_eq_false e]
theorem A65 (a : Int) (b : Str) : decide ((Sum.inl a : Key) = Sum.inr b) = false := decide_eq_false (fun q => nomatch q)
theorem A64 (a : Str) (b : Int) : decide ((Sum.inr a : Key) = Sum.inl b) = false := decide_eq_false (fun q => nomatch q)
def mixKind (prog : Program) (w : World) : PySem.KeyKind prog w Key where
 is := i5
 hash := keyH w
 inj := fun v a b ha hb => by
  rcases Bq ha with ⟨i,t,rfl,rfl⟩ | ⟨x,t,rfl,rfl⟩
  . rcases Bq hb with ⟨j,u,rfl,e⟩ | ⟨y,u,rfl,e⟩
    . injection e with e1 _; rw [e1]
    . exact nomatch e
  . rcases Bq hb with ⟨j,u,rfl,e⟩ | ⟨y,u,rfl,e⟩
    . exact nomatch e
    . injection e with e1 _; rw [e1]
 byValue := fun k v h => by
  rcases Bq h with ⟨i,t,rfl,rfl⟩ | ⟨x,t,rfl,rfl⟩ <;> rfl
 pyHash := fun hv h => by
  rcases Bq hv with ⟨i,t,rfl,rfl⟩ | ⟨x,t,rfl,rfl⟩
  . exact wpAny_pyHash_int h
  . exact wpAny_pyHash_str h
 eqBool := fun hu hv h => by
  rcases Bq hu with ⟨i,t,rfl,rfl⟩ | ⟨x,t,rfl,rfl⟩
  . rcases Bq hv with ⟨j,u,rfl,rfl⟩ | ⟨y,u,rfl,rfl⟩
    . rw [A66] at h; exact wpAny_eqBool_int h
    . rw [A65] at h; exact SeqAt.EqAt.int_str i t y u _ _ _ _ h
  . rcases Bq hv with ⟨j,u,rfl,rfl⟩ | ⟨y,u,rfl,rfl⟩
    . rw [A64] at h; exact SeqAt.EqAt.str_int x t j u _ _ _ _ h
    . rw [A63] at h; exact wpAny_eqBool_str h
 «strs» := fun k x t v h => by
  rcases Bq h with ⟨i,u,rfl,e⟩ | ⟨y,u,rfl,e⟩
  . exact nomatch e
  . injection e with e1 _
    subst e1
    cases v <;> rfl
theorem X4 (prog : Program) (w : World) (i : Int) (t : Tok) : (mixKind prog w).is (.inl i) (.int i t) = true := Ag1 i t
theorem X3 (prog : Program) (w : World) (x : Str) (t : Tok) : (mixKind prog w).is (.inr x) (.str x t) = true := Ag0 x t
end L2
namespace L2
open PySem PySem.Spec PyProof.Rows
inductive V where
 | non | bl (b : Bool) | int (i : Int) | str (x : Str) | byt (b : Array UInt8) | flt (b : UInt64) | ref (a : Addr) | ty (n : String)
 deriving DecidableEq
def RelV : V -> Value -> Prop
 | .non,u => u = Value.none
 | .bl b,u => u = Value.bool b
 | .int i,u => ∃ t,u = Value.int i t
 | .str x,u => ∃ t,u = Value.str x t
 | .byt b,u => ∃ t,u = Value.bytes b t
 | .flt b,u => ∃ t,u = Value.float b t
 | .ref a,u => u = Value.ref a
 | .ty n,u => u = Value.type n
abbrev Vals : List V -> List Value -> Prop := Paired RelV
theorem Vals.length {xs : List V} {us : List Value} (r : Vals xs us) : xs.length = us.length := Paired.length r
theorem Vals.get : ∀ {xs : List V} {us : List Value} {i : Nat} {x : V},Vals xs us -> xs[i]? = some x -> ∃ u,us[i]? = some u /\ RelV x u
 | _,_,_,_,.nil,e => by simp at e
 | _,_,0,_,.cons r _,e => by simp at e; subst e; exact ⟨_,rfl,r⟩
 | _,_,i + 1,x,.cons _ t,e => by
   obtain ⟨u,h1,h2⟩ := Vals.get (i := i) (x := x) t (by simpa using e)
   exact ⟨u,by simpa using h1,h2⟩
theorem Vals.append : ∀ {xs ys : List V} {us ws : List Value},Vals xs us -> Vals ys ws -> Vals (xs ++ ys) (us ++ ws)
 | _,_,_,_,.nil,s => s
 | _,_,_,_,.cons r t,s => .cons r (Vals.append t s)
theorem Vals.take : ∀ {xs : List V} {us : List Value} (n : Nat),Vals xs us -> Vals (xs.take n) (us.take n)
 | _,_,0,_ => .nil
 | _,_,_ + 1,.nil => .nil
 | _,_,n + 1,.cons r t => .cons r (Vals.take n t)
theorem Vals.drop : ∀ {xs : List V} {us : List Value} (n : Nat),Vals xs us -> Vals (xs.drop n) (us.drop n)
 | _,_,0,r => r
 | _,_,_ + 1,.nil => .nil
 | _,_,n + 1,.cons _ t => Vals.drop n t
def RelO : Option V -> Option Value -> Prop
 | some v,some u => RelV v u
 | none,none => True
 | _,_ => False
def KV {κ : Type} : List (κ × V) -> List (κ × Value) -> Prop := Paired fun (p : κ × V) (q : κ × Value) => p.1 = q.1 /\ RelV p.2 q.2
def kV : Key -> V
 | .inl i => .int i
 | .inr x => .str x
inductive HO where
 | lst (xs : List V)
 | tup (xs : List V)
 | dK (kvs : List (Key × V)) | dT (kvs : List (List Key × V))
 | set (S : Int -> Bool) (n : Nat)
 | ins (C dx : Addr) (fs : List (Str × V))
 | own (x : Addr)
 | xd (fs : List (Str × V))
 | met (f x : Addr)
 | rng (lo hi : Int)
 | frz (o : Obj) (u : HO)
 | tbl (ps : Array Value)
 | ext (φ : Heap -> Prop)
abbrev Hp := Addr -> Option HO
def upd (H : Hp) (a : Addr) (o : HO) : Hp := fun b => if b = a then some o else H b
theorem Ab {H : Hp} {a : Addr} {o : HO} : upd H a o a = some o := by unfold upd; rw [if_pos rfl]
theorem Ae {H : Hp} {a b : Addr} {o : HO} (h : b ≠ a) : upd H a o b = H b := by unfold upd; rw [if_neg h]
theorem F3 {H : Hp} {a b : Addr} {o u : HO} (h : H a = some o) (h' : H b = some u) (d : o ≠ u) : a ≠ b := by
 intro e; subst e; rw [h] at h'; exact d (Option.some.inj h')
theorem Ak {H : Hp} {a b : Addr} {o : HO} (h : H a = some o) (h' : H b = none) : a ≠ b := by
 intro e; subst e; rw [h] at h'; cases h'
def Jj (h : Heap) (a : Addr) (items : Array Value) : Prop := ∃ o,h.get? a = some o /\ o.cls = .type "tuple" /\ o.dict = none /\ ∃ n,o.data = .seq items n
theorem Jj.tup {h : Heap} {a : Addr} {items : Array Value} (x : Jj h a items) : IsTup h a items := let ⟨o,e,c,_,d⟩ := x; ⟨o,e,c,d⟩
theorem Jj.lt {h : Heap} {a : Addr} {items : Array Value} (x : Jj h a items) : a < h.objs.size := x.tup.lt
theorem Jj.new (h : Heap) (items : Array Value) : Jj (h.push { cls := .type "tuple",data := .seq items }) h.objs.size items := ⟨_,Heap.get?_push_size _ rfl,rfl,rfl,_,rfl⟩
section
variable (P : Program) (w : World)
def ObjOk (H : Hp) (h : Heap) (a : Addr) : HO -> Prop
 | .lst xs => xs.length <= sizeLine /\ ∃ (its : List Value) (n : Nat),Vals xs its /\ h.get? a = some { cls := .type "list",data := .seq its.toArray n }
 | .tup xs => xs.length <= sizeLine /\ ∃ its : List Value,Vals xs its /\ Jj h a its.toArray
 | .dK kvs => kvs.length <= sizeLine /\ (a == sysModules) = false /\ ∃ vs,KV kvs vs /\ h.DictOf (mixKind P w) a vs
 | .dT kvs => kvs.length <= sizeLine /\ (a == sysModules) = false /\ ∃ xs : List (List Key × Addr × Value),
    Paired (fun (p : List Key × V) (q : List Key × Addr × Value) => p.1 = q.1 /\ H q.2.1 = some (.tup (p.1.map kV)) /\ RelV p.2 q.2.2) kvs xs ∧
    ∃ o es ep,h.get? a = some o /\ o.ExactDict /\ o.data = .dict es ep /\ es.toList = xs.map (entryOfKey (tupleKind (mixKind P w))) /\ (xs.map (·.1)).Nodup
 | .set S n => h.SetOf (intKind P w) a S n
 | .ins C dx fs => H dx = some (.own a) /\ fs.length <= 1000 /\ dx ≠ a /\ h.get? a = some (PySem.W.instObj C dx) ∧
    ∃ mA,h.Ns1 dx mA /\ (∀ f,RelO (fs.lookup f) (mA f)) /\ PySem.Within mA (fs.map (·.1))
 | .own _ => ∃ o,h.get? a = some o
 | .xd fs => ∃ mA,h.Ns1 a mA /\ ∀ f,RelO (fs.lookup f) (mA f)
 | .rng lo hi => ∃ t u v,h.get? a = some { cls := .type "range",data := .fields #[.int lo t,.int hi u,.int 1 v] }
 | .frz o u => h.get? a = some o /\ ObjOk H h a u
 | .tbl ps => h.get? a = some { cls := .none,data := .fields ps }
 | .met f x => h.get? a = some (PySem.W.methodObj (.ref f) (.ref x))
 | .ext φ => φ h /\ (∃ o,h.get? a = some o) /\ ∀ h1 h2 : Heap,φ h1 -> (∀ o,h1.get? a = some o -> h2.get? a = some o) -> φ h2
def HOk (H : Hp) (h : Heap) : Prop := ∀ a o,H a = some o -> ObjOk P w H h a o
end
section
variable {P : Program} {w : World} {H H' : Hp} {h h' : Heap} {a : Addr} {o : HO}
theorem ObjOk.lt (x : ObjOk P w H h a o) : a < h.objs.size := by
 cases o with
 | lst xs => obtain ⟨_,_,_,_,e⟩ := x; exact Heap.lt_size e
 | tup xs => obtain ⟨_,_,_,p⟩ := x; exact p.lt
 | dK kvs => obtain ⟨_,_,_,_,o,_,_,e,_⟩ := x; exact Heap.lt_size e
 | dT kvs => obtain ⟨_,_,_,_,o,_,_,e,_⟩ := x; exact Heap.lt_size e
 | set S n => obtain ⟨o,_,_,_,e,_⟩ := x; exact Heap.lt_size e
 | ins C dx fs => obtain ⟨_,_,_,e,_⟩ := x; exact Heap.lt_size e
 | own y => obtain ⟨_,e⟩ := x; exact Heap.lt_size e
 | xd fs => obtain ⟨_,⟨_,_,_,e,_⟩,_⟩ := x; exact Heap.lt_size e
 | rng lo hi => obtain ⟨_,_,_,e⟩ := x; exact Heap.lt_size e
 | frz ob u => obtain ⟨e,_⟩ := x; exact Heap.lt_size e
 | tbl ps => exact Heap.lt_size (show h.get? a = some _ from x)
 | met f y => exact Heap.lt_size (show h.get? a = some _ from x)
 | ext φ => obtain ⟨_,⟨_,e⟩,_⟩ := x; exact Heap.lt_size e
theorem Paired.mapP {α β : Type} {F G : α -> β -> Prop} : ∀ {l₁ : List α} {l₂ : List β},Paired F l₁ l₂ -> (∀ a b,F a b -> G a b) -> Paired G l₁ l₂
 | _,_,.nil,_ => .nil
 | _,_,.cons r t,f => .cons (f _ _ r) (Paired.mapP t f)
theorem ObjOk.stay (x : ObjOk P w H h a o) (k : ∀ b u,(b = a \/ H b = some (.own a)) -> h.get? b = some u -> h'.get? b = some u)
 (ho : ∀ b,H b = some (.own a) -> H' b = some (.own a)) (ht : ∀ b xs,H b = some (.tup xs) -> H' b = some (.tup xs)) : ObjOk P w H' h' a o := by
 induction o with
 | lst xs => obtain ⟨z,its,n,r,e⟩ := x; exact ⟨z,its,n,r,k _ _ (.inl rfl) e⟩
 | tup xs => obtain ⟨z,its,r,ob,e,c⟩ := x; exact ⟨z,its,r,ob,k _ _ (.inl rfl) e,c⟩
 | dK kvs => obtain ⟨z,y,vs,r,ob,es,ep,e,c⟩ := x; exact ⟨z,y,vs,r,ob,es,ep,k _ _ (.inl rfl) e,c⟩
 | dT kvs =>
   obtain ⟨z,y,xs,r,ob,es,ep,e,c⟩ := x
   exact ⟨z,y,xs,Paired.mapP r fun p q z => ⟨z.1,ht _ _ z.2.1,z.2.2⟩,ob,es,ep,k _ _ (.inl rfl) e,c⟩
 | set S n => obtain ⟨ob,es,ep,t,e,c⟩ := x; exact ⟨ob,es,ep,t,k _ _ (.inl rfl) e,c⟩
 | ins C dx fs =>
   obtain ⟨d,z,ne,e,mA,⟨od,es,ep,e2,c⟩,r⟩ := x
   exact ⟨ho _ d,z,ne,k _ _ (.inl rfl) e,mA,⟨od,es,ep,k _ _ (.inr d) e2,c⟩,r⟩
 | own y => obtain ⟨ob,e⟩ := x; exact ⟨ob,k _ _ (.inl rfl) e⟩
 | xd fs => obtain ⟨mA,⟨od,es,ep,e,c⟩,r⟩ := x; exact ⟨mA,⟨od,es,ep,k _ _ (.inl rfl) e,c⟩,r⟩
 | rng lo hi => obtain ⟨t,u,v,e⟩ := x; exact ⟨t,u,v,k _ _ (.inl rfl) e⟩
 | frz ob u ih => obtain ⟨e,q⟩ := x; exact ⟨k _ _ (.inl rfl) e,ih q⟩
 | tbl ps =>
   have e : h.get? a = some { cls := .none,data := .fields ps } := x
   show h'.get? a = some { cls := .none,data := .fields ps }
   exact k a _ (.inl rfl) e
 | met f y =>
   have e : h.get? a = some (PySem.W.methodObj (.ref f) (.ref y)) := x
   show h'.get? a = some (PySem.W.methodObj (.ref f) (.ref y))
   exact k a _ (.inl rfl) e
 | ext φ => obtain ⟨p,⟨o,e⟩,st⟩ := x; exact ⟨st _ _ p fun o q => k _ _ (.inl rfl) q,⟨o,k _ _ (.inl rfl) e⟩,st⟩
theorem HOk.lt (x : HOk P w H h) (e : H a = some o) : a < h.objs.size := (x a o e).lt
theorem HOk.fresh (x : HOk P w H h) (e : h.objs.size <= a) : H a = none := by
 cases q : H a with
 | none => rfl
 | some u => exact absurd (Nat.lt_of_lt_of_le (x.lt q) e) (Nat.lt_irrefl _)
theorem HOk.kept (x : HOk P w H h) (k : ∀ b u,h.get? b = some u -> h'.get? b = some u) : HOk P w H h' := fun a o e =>
 (x a o e).stay (fun b u _ q => k b u q) (fun _ q => q) fun _ _ q => q
theorem HOk.laid (x : HOk P w H h) (k : ∀ b u,h.get? b = some u -> h'.get? b = some u) (hp : h.objs.size <= a) (new : ObjOk P w (upd H a o) h' a o) : HOk P w (upd H a o) h' := fun b u e => by
 have hn := x.fresh hp
 by_cases hb : b = a
 . subst hb; rw [Ab] at e; cases e; exact new
 . rw [Ae hb] at e
   exact (x b u e).stay (fun c v _ q => k c v q) (fun c q => by rw [Ae (Ak q hn)]; exact q) fun c xs q => by rw [Ae (Ak q hn)]; exact q
end
def Rd (H : Hp) (a : Addr) (u : HO) : Prop := H a = some u \/ ∃ o,H a = some (.frz o u)
theorem Rd.ok {P : Program} {w : World} {H : Hp} {h : Heap} {a : Addr} {u : HO} (r : Rd H a u) (x : HOk P w H h) : ObjOk P w H h a u := by
 rcases r with r | ⟨o,r⟩
 . exact x a u r
 . obtain ⟨_,q⟩ := x a _ r
   exact q
def Mut : Option HO -> Prop
 | some (.lst _) => True
 | some (.dK _) => True
 | some (.dT _) => True
 | some (.set _ _) => True
 | some (.ins _ _ _) => True
 | some (.ext _) => True
 | _ => False
section
variable {P : Program} {w : World} {H : Hp} {h h' : Heap} {x e : Addr} {o' : HO}
theorem HOk.write (ok : HOk P w H h) (mu : Mut (H x)) (he : e = x \/ H e = some (.own x)) (k : ∀ b u,b ≠ e -> h.get? b = some u -> h'.get? b = some u) (heo : ∃ u,h'.get? e = some u)
 (new : ObjOk P w (upd H x o') h' x o') : HOk P w (upd H x o') h' := fun b u q => by
 have nown : ∀ c y,H c = some (.own y) -> c ≠ x := fun c y r z => by subst z; rw [r] at mu; exact mu
 have ntup : ∀ c xs,H c = some (.tup xs) -> c ≠ x := fun c xs r z => by subst z; rw [r] at mu; exact mu
 by_cases hb : b = x
 . subst hb; rw [Ab] at q; cases q; exact new
 . rw [Ae hb] at q
   by_cases hbe : b = e
   . have q' : H b = some (.own x) := by
      rcases he with z | z
      . exact absurd (hbe.trans z) hb
      . rw [hbe]; exact z
     rw [q] at q'; cases q'
     obtain ⟨v,hv⟩ := heo
     exact ⟨v,by rw [hbe]; exact hv⟩
   . refine (ok b u q).stay (fun c v hc r => k c v ?_ r) (fun c r => by rw [Ae (nown c b r)]; exact r) fun c xs r => by rw [Ae (ntup c xs r)]; exact r
     rcases hc with rfl | hc
     . exact hbe
     . rintro rfl
       rcases he with z | z
       . exact nown c b hc z
       . rw [hc] at z; cases z; exact hb rfl
end
structure Un (fs ex : List Addr) (H H' : Hp) (h h' : Heap) : Prop where
 keep : ∀ b o,h.get? b = some o -> H b = none -> b ∉ fs -> b ∉ ex -> h'.get? b = some o
 slot : ∀ b o,h.get? b = some o -> H b = none -> b ∈ fs -> b ∉ ex -> ∃ sl,h'.get? b = some { o with slots := sl }
 free : ∀ b o,h.get? b = some o -> H b = none -> b ∉ ex -> H' b = none
 there : ∀ b o,h.get? b = some o -> b ∉ ex -> ∃ o',h'.get? b = some o'
 tups : ∀ b xs,H b = some (.tup xs) -> H' b = some (.tup xs)
 frzs : ∀ b o u,H b = some (.frz o u) -> H' b = some (.frz o u)
 tbls : ∀ b ps,H b = some (.tbl ps) -> ∃ more,H' b = some (.tbl (ps ++ more))
section
variable {fs fs' ex ex' : List Addr} {H H1 H2 : Hp} {h h1 h2 h' : Heap} {a x e : Addr} {o : HO}
theorem Un.any (u : Un fs ex H H1 h h1) {b : Addr} {ob : Obj} (q : h.get? b = some ob) (n : H b = none) (hx : b ∉ ex) : ∃ sl,h1.get? b = some { ob with slots := sl } := by
 by_cases hb : b ∈ fs
 . exact u.slot b ob q n hb hx
 . exact ⟨ob.slots,u.keep b ob q n hb hx⟩
theorem Un.kept (k : ∀ b u,h.get? b = some u -> h'.get? b = some u) : Un fs ex H H h h' :=
 ⟨fun b ob q _ _ _ => k b ob q,fun b ob q _ _ _ => ⟨ob.slots,k b ob q⟩,fun _ _ _ n _ => n,fun b ob q _ => ⟨ob,k b ob q⟩,fun _ _ q => q,fun _ _ _ q => q,fun _ ps q => ⟨#[],by rw [q]; simp⟩⟩
theorem Un.refl : Un fs ex H H h h := Un.kept fun _ _ q => q
theorem Un.laid (k : ∀ b u,h.get? b = some u -> h'.get? b = some u) (hp : h.objs.size <= a) (hn : H a = none) : Un fs ex H (upd H a o) h h' where
 keep := fun b u q _ _ _ => k b u q
 slot := fun b u q _ _ _ => ⟨u.slots,k b u q⟩
 free := fun b u q n _ => by rw [Ae (Nat.ne_of_lt (Nat.lt_of_lt_of_le (Heap.lt_size q) hp))]; exact n
 there := fun b u q _ => ⟨u,k b u q⟩
 tups := fun b xs q => by rw [Ae (Ak q hn)]; exact q
 frzs := fun b u xs q => by rw [Ae (Ak q hn)]; exact q
 tbls := fun b ps q => ⟨#[],by rw [Ae (Ak q hn),q]; simp⟩
theorem Un.write (mu : Mut (H x)) (he : e = x \/ H e = some (.own x)) (k : ∀ b u,b ≠ e -> h.get? b = some u -> h'.get? b = some u) (heo : ∃ u,h'.get? e = some u) : Un fs ex H (upd H x o) h h' := by
 have hx : ∀ b,H b = none -> b ≠ x := fun b n z => by subst z; rw [n] at mu; exact mu
 have hb : ∀ b,H b = none -> b ≠ e := fun b n z => by
  subst z
  rcases he with r | r
  . exact hx b n r
  . rw [n] at r; cases r
 have hm : ∀ b u,H b = some u -> ¬ Mut (some u) -> b ≠ x := fun b u q nm z => by subst z; rw [q] at mu; exact nm mu
 refine ⟨fun b u q n _ _ => k b u (hb b n) q,fun b u q n _ _ => ⟨u.slots,k b u (hb b n) q⟩,fun b u q n _ => by rw [Ae (hx b n)]; exact n,fun b u q _ => ?_,
  fun b xs q => by rw [Ae (hm b _ q fun z => z)]; exact q,fun b u xs q => by rw [Ae (hm b _ q fun z => z)]; exact q,fun b ps q => ⟨#[],by rw [Ae (hm b _ q fun z => z),q]; simp⟩⟩
 by_cases hbe : b = e
 . subst hbe; exact heo
 . exact ⟨u,k b u hbe q⟩
end
def trk (h : Heap) (H : Hp) : List Addr := (List.range h.objs.size).filter fun a => (H a).isSome
def hidT (h : Heap) (H : Hp) : Heap := PySem.W.hideAll h (trk h H)
theorem Ah1 (h : Heap) (H : Hp) : (hidT h H).objs.size = h.objs.size := PySem.W.hideAll_size _ _
theorem Ar0 {h : Heap} {H : Hp} {b : Addr} {o : Obj} (e : h.get? b = some o) (n : H b = none) : (hidT h H).get? b = some o :=
 PySem.W.hideAll_get _ e fun hm => by
  have q : (H b).isSome = true := (List.mem_filter.mp hm).2
  rw [n] at q; simp at q
theorem Ax9 {h : Heap} {H : Hp} {b : Addr} {o : Obj} (e : (hidT h H).get? b = some o) : h.get? b = some o /\ H b = none := by
 have e' : h.get? b = some o := PySem.W.of_hideAll (trk h H) e
 refine ⟨e',?_⟩
 cases q : H b with
 | none => rfl
 | some x =>
   have hm : b ∈ trk h H := List.mem_filter.mpr ⟨List.mem_range.mpr (Heap.lt_size e'),by simp [q]⟩
   have z : (hidT h H).get? b = none := PySem.W.hideAll_none (trk h H) hm
   rw [z] at e; cases e
def A15 (g h : Heap) (L : Addr) : List (Addr × Obj) := (List.range h.objs.size).filterMap fun a => if a = L \/ (g.get? a).isSome = true then none else (h.get? a).map fun o => (a,o)
def rest (g h : Heap) (L d : Addr) : List (Addr × Obj) := (A15 g h L).filter fun p => decide (p.1 ≠ d)
end L2
namespace L2
open PySem PySem.Spec PyProof.Rows
structure Mod (K : W.Frag) (mg : Str -> Option Value) (base : Heap) : Prop where
 kin : K.In base
 glob : base.Ns mainGlobals mg
 blt : ∃ mb,base.Ns builtinsNs mb /\ ∀ x : Str,x ≠ "__name__" -> mb x = bootBuiltins x
 nolimit : base.NoLimit
structure Cx where
 prog : Program
 w : World
 K : PySem.W.Frag
 mg : Str -> Option Value
 base : Heap
 A : Around
 N : List Str
 s₀ : Shared
 H₀ : Hp
 env : Env
 outer : List Env
 stack : List Env
 ex : List Addr
 fn : Str -> Bool
 calm : Bool
 pn : List (Addr × Obj)
 xe : Value -> Shared -> Prop
def frs (l : List Env) : List Addr := l.filterMap (·.frame)
abbrev Cx.fs (X : Cx) : List Addr := frs X.outer
def Vis (sc : Scope) (x : Str) : Prop := sc.names.lookup x = some .local \/ sc.names.lookup x = some .cell \/ sc.names.lookup x = some .free
def Loc (sc : Scope) (x : Str) : Prop := sc.names.lookup x = some .local \/ sc.names.lookup x = some .cell
def Look (env : Env) (h : Heap) (m : Str -> Option Value) (x : Str) (u : Value) : Prop :=
 (env.kindOf x = some .local /\ m x = some u) \/ ((env.kindOf x = some .cell \/ env.kindOf x = some .free) /\ ∃ c,env.cells.lookup x = some c /\ h.IsCell c (some u))
structure Cx.Ok (X : Cx) : Prop where
 mod : Mod X.K X.mg X.base
 kind : X.env.scope.kind = .function
 glob : X.env.globals = mainGlobals
 blt : X.env.builtins = builtinsNs
 above : X.s₀.heap.objs.size <= X.env.locals
 inj : ∀ x y c,X.env.cells.lookup x = some c -> X.env.cells.lookup y = some c -> x = y
 has : ∀ x,(X.env.kindOf x = some .cell \/ X.env.kindOf x = some .free) -> ∃ c,X.env.cells.lookup x = some c
 cab : ∀ x c,X.fn x = true -> X.env.cells.lookup x = some c -> X.s₀.heap.objs.size <= c
 hd : X.calm = true -> X.A.handled = none
 frames : X.A.frames = some X.stack
 stk : X.stack = X.outer \/ (X.stack = X.env :: X.outer /\ X.env.frame = some X.env.locals)
 exf : ∀ b ∈ X.ex,b ≠ X.env.locals /\ ∀ x c,X.env.cells.lookup x = some c -> c ≠ b
 bs : ∀ b o,X.base.get? b = some o -> X.s₀.heap.get? b = some o /\ X.H₀ b = none
 bsz : X.base.objs.size <= X.s₀.heap.objs.size
 noex : ∀ b o,X.base.get? b = some o -> b ∉ X.ex
 exfs : ∀ b ∈ X.ex,b ∉ X.fs
 funs : X.s₀.heap.FunFrames X.base X.outer
 frf : ∀ b ∈ X.fs,X.H₀ b = none
structure Inv (X : Cx) (pins : List (Addr × Obj)) (σ : List (Option V)) (H : Hp) (s : Shared) : Prop where
 ok : X.Ok
 os : s.os = X.s₀.os
 bare : AllBare s.gens
 base : Un X.fs X.ex X.H₀ H X.s₀.heap s.heap
 loc : ∃ m,s.heap.Ns X.env.locals m /\ ∀ (i : Nat) (x : Str) (v : V),X.N[i]? = some x -> σ[i]? = some (some v) -> Vis X.env.scope x -> ∃ u,RelV v u /\ Look X.env s.heap m x u
 cell : ∀ x c,X.env.cells.lookup x = some c -> ∃ v,s.heap.IsCell c v
 free : H X.env.locals = none
 freeC : ∀ x c,X.env.cells.lookup x = some c -> H c = none
 pin : ∀ p ∈ X.pn ++ pins,s.heap.get? p.1 = some p.2 /\ H p.1 = none /\ p.1 ≠ X.env.locals /\ p.1 ∉ X.fs /\ ∀ v,p.2.data ≠ .cell v
 hok : HOk X.prog X.w H s.heap
 len : σ.length = X.N.length
section
variable {X : Cx} {pins : List (Addr × Obj)} {σ : List (Option V)} {H H' : Hp} {s : Shared} {h' : Heap}
theorem Cx.Ok.nofr (ok : X.Ok) {b : Addr} {o : Obj} (e : X.base.get? b = some o) : b ∉ X.fs := fun hb => by
 have := (ok.funs.mem hb).1
 rw [e] at this; cases this
theorem Inv.bs (I : Inv X pins σ H s) : ∀ b o,X.base.get? b = some o -> s.heap.get? b = some o /\ H b = none := fun b o e =>
 ⟨I.base.keep b o (I.ok.bs b o e).1 (I.ok.bs b o e).2 (I.ok.nofr e) (I.ok.noex b o e),I.base.free b o (I.ok.bs b o e).1 (I.ok.bs b o e).2 (I.ok.noex b o e)⟩
theorem Inv.bk (I : Inv X pins σ H s) : ∀ b o,X.base.get? b = some o -> s.heap.get? b = some o := fun b o e => (I.bs b o e).1
theorem Inv.mod (I : Inv X pins σ H s) : Mod X.K X.mg X.base := I.ok.mod
theorem Inv.kIn (I : Inv X pins σ H s) : X.K.In s.heap := I.ok.mod.kin.keeps I.bk
theorem Inv.lt (I : Inv X pins σ H s) : X.env.locals < s.heap.objs.size := let ⟨_,hn,_⟩ := I.loc; hn.lt
theorem Inv.sz (I : Inv X pins σ H s) : X.s₀.heap.objs.size <= s.heap.objs.size := Nat.le_trans I.ok.above (Nat.le_of_lt I.lt)
theorem Inv.nofs (I : Inv X pins σ H s) {a : Addr} (h : s.heap.objs.size <= a) : a ∉ X.fs := fun hb => by
 obtain ⟨_,o,ho,_⟩ := I.ok.funs.mem hb
 exact absurd (Nat.lt_of_lt_of_le (Heap.lt_size ho) (Nat.le_trans I.sz h)) (Nat.lt_irrefl _)
theorem Inv.cne (I : Inv X pins σ H s) : ∀ x c,X.env.cells.lookup x = some c -> c ≠ X.env.locals := fun x c e z => by
 obtain ⟨v,o,ho,hd⟩ := I.cell x c e
 obtain ⟨m,⟨o',es,ep,ho',hd',_⟩,_⟩ := I.loc
 rw [z,ho'] at ho; cases ho; rw [hd'] at hd; cases hd
theorem Inv.funs (I : Inv X pins σ H s) : s.heap.FunFrames X.base X.outer := by
 have all : ∀ (l : List Env),(∀ b ∈ frs l,b ∈ X.fs) -> X.s₀.heap.FunFrames X.base l -> s.heap.FunFrames X.base l := by
  intro l
  induction l with
  | nil => intro _ _; trivial
  | cons env r ih =>
    intro hs hl
    obtain ⟨hk,⟨L,o,hf,hn,ho,hd⟩,hr⟩ := hl
    have hL : L ∈ X.fs := hs L (by unfold frs; rw [List.filterMap_cons,hf]; exact List.mem_cons_self)
    obtain ⟨sl,e⟩ := I.base.slot L o ho (I.ok.frf L hL) hL fun z => I.ok.exfs L z hL
    exact ⟨hk,⟨L,_,hf,hn,e,hd⟩,ih (fun b hb => hs b (by unfold frs; rw [List.filterMap_cons,hf]; exact List.mem_cons_of_mem _ hb)) hr⟩
 exact all X.outer (fun _ hb => hb) I.ok.funs
theorem Inv.stack (I : Inv X pins σ H s) : s.heap.FunFrames X.base X.stack := by
 rcases I.ok.stk with e | ⟨e,hf⟩
 . rw [e]; exact I.funs
 . rw [e]
   obtain ⟨m,hn,_⟩ := I.loc
   refine .cons (by rw [I.ok.kind]; decide) hf hn ?_ I.funs
   exact Heap.get?_none_of_le (Nat.le_trans I.ok.bsz I.ok.above)
theorem Inv.stkSub (I : Inv X pins σ H s) : ∀ b ∈ frs X.stack,b ∈ X.env.locals :: X.fs := fun b hb => by
 rcases I.ok.stk with e | ⟨e,hf⟩
 . rw [e] at hb; exact List.mem_cons_of_mem _ hb
 . rw [e] at hb
   unfold frs at hb
   rw [List.filterMap_cons,hf] at hb
   exact hb
theorem Inv.stkFree (I : Inv X pins σ H s) : ∀ b ∈ frs X.stack,H b = none := fun b hb => by
 rcases List.mem_cons.mp (I.stkSub b hb) with e | hb
 . rw [e]; exact I.free
 . obtain ⟨_,o,ho,_⟩ := I.ok.funs.mem hb
   exact I.base.free b o ho (I.ok.frf b hb) fun z => I.ok.exfs b z hb
theorem Inv.step {g' : Array GenState} {t' : Nat} {d' : Drawn} {ch : List Addr} (I : Inv X pins σ H s)
 (hch : ∀ b ∈ ch,(b ∈ X.ex \/ X.s₀.heap.objs.size <= b) /\ b ≠ X.env.locals /\ (∀ x c,X.env.cells.lookup x = some c -> c ≠ b) /\ ∀ p ∈ X.pn ++ pins,p.1 ≠ b)
 (keep : ∀ b o,b ≠ X.env.locals -> b ∉ X.fs -> b ∉ ch -> s.heap.get? b = some o -> H b = none -> h'.get? b = some o)
 (slot : ∀ b o,b ≠ X.env.locals -> b ∈ X.fs -> b ∉ ch -> s.heap.get? b = some o -> H b = none -> ∃ sl,h'.get? b = some { o with slots := sl }) (free : ∀ b o,b ∉ ch -> s.heap.get? b = some o -> H b = none -> H' b = none)
 (there : ∀ b o,b ∉ ch -> s.heap.get? b = some o -> ∃ o',h'.get? b = some o')
 (tups : ∀ b xs,H b = some (.tup xs) -> H' b = some (.tup xs)) (frzs : ∀ b o u,H b = some (.frz o u) -> H' b = some (.frz o u)) (tbls : ∀ b ps,H b = some (.tbl ps) -> ∃ more,H' b = some (.tbl (ps ++ more)))
 (ns : ∀ m,s.heap.Ns X.env.locals m -> h'.Ns X.env.locals m) (hok : HOk X.prog X.w H' h') (hg : AllBare g') :
 Inv X pins σ H' { s with heap := h',gens := g',drawn := d',toks := t' } := by
 have neL : ∀ b o,X.s₀.heap.get? b = some o -> b ≠ X.env.locals := fun b o e => Nat.ne_of_lt (Nat.lt_of_lt_of_le (Heap.lt_size e) I.ok.above)
 have neC : ∀ b o,X.s₀.heap.get? b = some o -> b ∉ X.ex -> b ∉ ch := fun b o e hx hb => by
  rcases (hch b hb).1 with z | z
  . exact hx z
  . exact absurd (Nat.lt_of_lt_of_le (Heap.lt_size e) z) (Nat.lt_irrefl _)
 have cellK : ∀ x c,X.env.cells.lookup x = some c -> ∀ v,s.heap.IsCell c v -> h'.IsCell c v := fun x c e v ⟨o,ho,hd⟩ => by
  have nch : c ∉ ch := fun z => (hch c z).2.2.1 x c e rfl
  by_cases hc : c ∈ X.fs
  . obtain ⟨sl,q⟩ := slot c o (I.cne x c e) hc nch ho (I.freeC x c e)
    exact ⟨_,q,hd⟩
  . exact ⟨o,keep c o (I.cne x c e) hc nch ho (I.freeC x c e),hd⟩
 refine ⟨I.ok,I.os,hg,⟨fun b o e n hb hx => ?_,fun b o e n hb hx => ?_,fun b o e n hx => ?_,fun b o e hx => ?_,fun b xs e => tups b xs (I.base.tups b xs e),fun b o xs e => frzs b o xs (I.base.frzs b o xs e),fun b ps e => ?_⟩,?_,fun x c e => ?_,?_,fun x c e => ?_,fun p hp => ?_,hok,I.len⟩
 . exact keep b o (neL b o e) hb (neC b o e hx) (I.base.keep b o e n hb hx) (I.base.free b o e n hx)
 . obtain ⟨sl,e1⟩ := I.base.slot b o e n hb hx
   obtain ⟨sl',e2⟩ := slot b _ (neL b o e) hb (neC b o e hx) e1 (I.base.free b o e n hx)
   exact ⟨sl',e2⟩
 . obtain ⟨o',e1⟩ := I.base.there b o e hx
   exact free b o' (neC b o e hx) e1 (I.base.free b o e n hx)
 . obtain ⟨o',e1⟩ := I.base.there b o e hx
   exact there b o' (neC b o e hx) e1
 . obtain ⟨m1,e1⟩ := I.base.tbls b ps e
   obtain ⟨m2,e2⟩ := tbls b _ e1
   exact ⟨m1 ++ m2,by rw [e2,Array.append_assoc]⟩
 . obtain ⟨m,hn,hl⟩ := I.loc
   refine ⟨m,ns m hn,fun i x v e1 e2 e3 => ?_⟩
   obtain ⟨u,r,l⟩ := hl i x v e1 e2 e3
   refine ⟨u,r,?_⟩
   rcases l with l | ⟨k,c,e,z⟩
   . exact .inl l
   . exact .inr ⟨k,c,e,cellK x c e _ z⟩
 . obtain ⟨v,z⟩ := I.cell x c e
   exact ⟨v,cellK x c e v z⟩
 . obtain ⟨m,⟨o,_,_,ho,_⟩,_⟩ := I.loc
   exact free _ o (fun z => (hch _ z).2.1 rfl) ho I.free
 . obtain ⟨v,o,ho,hd⟩ := I.cell x c e
   exact free c o (fun z => (hch c z).2.2.1 x c e rfl) ho (I.freeC x c e)
 . obtain ⟨e,n,ne,nf,d⟩ := I.pin p hp
   have nch : p.1 ∉ ch := fun z => (hch p.1 z).2.2.2 p hp rfl
   exact ⟨keep p.1 p.2 ne nf nch e n,free p.1 p.2 nch e n,ne,nf,d⟩
theorem Inv.un {t' : Nat} (I : Inv X pins σ H s) (u : Un X.fs [] H H' s.heap h') (hok : HOk X.prog X.w H' h') : Inv X pins σ H' { s with heap := h',toks := t' } := by
 obtain ⟨m,⟨o,es,ep,ho,r⟩,_⟩ := id I.loc
 obtain ⟨sl,hL⟩ := u.any ho I.free (by simp)
 exact I.step (g' := s.gens) (d' := s.drawn) (ch := []) (fun _ z => nomatch z) (fun b o _ hb _ e n => u.keep b o e n hb (by simp)) (fun b o _ hb _ e n => u.slot b o e n hb (by simp)) (fun b o _ e n => u.free b o e n (by simp)) (fun b o _ e => u.there b o e (by simp)) u.tups u.frzs u.tbls (fun m' hm => by
  obtain ⟨o',es',ep',ho',r'⟩ := hm
  rw [ho] at ho'; cases ho'
  exact ⟨_,es',ep',hL,r'⟩) hok I.bare
theorem Inv.call {g' : Array GenState} {t' : Nat} {d' : Drawn} {ch : List Addr} (I : Inv X pins σ H s) (u : Un (frs X.stack) ch H H' s.heap h') (hok : HOk X.prog X.w H' h') (hg : AllBare g')
 (hch : ∀ b ∈ ch,(b ∈ X.ex \/ X.s₀.heap.objs.size <= b) /\ b ≠ X.env.locals /\ (∀ x c,X.env.cells.lookup x = some c -> c ≠ b) /\ ∀ p ∈ X.pn ++ pins,p.1 ≠ b) :
 Inv X pins σ H' { s with heap := h',gens := g',drawn := d',toks := t' } := by
 obtain ⟨m,⟨o,es,ep,ho,r⟩,_⟩ := id I.loc
 obtain ⟨sl,hL⟩ := u.any ho I.free fun z => (hch _ z).2.1 rfl
 exact I.step (ch := ch) hch (fun b o hL hb hc e n => u.keep b o e n (fun z => (List.mem_cons.mp (I.stkSub b z)).elim hL hb) hc) (fun b o _ _ hc e n => u.any e n hc) (fun b o hc e n => u.free b o e n hc) (fun b o hc e => u.there b o e hc) u.tups u.frzs u.tbls (fun m' hm => by
  obtain ⟨o',es',ep',ho',r'⟩ := hm
  rw [ho] at ho'; cases ho'
  exact ⟨_,es',ep',hL,r'⟩) hok hg
theorem Inv.turned {t' : Nat} {it : Addr} (I : Inv X pins σ H s) (k : ∀ b o,b ≠ it -> s.heap.get? b = some o -> h'.get? b = some o) (hn : H it = none) (hL : it ≠ X.env.locals)
 (h1 : it ∈ X.ex \/ X.s₀.heap.objs.size <= it) (h2 : ∀ x c,X.env.cells.lookup x = some c -> c ≠ it) (h3 : ∀ p ∈ X.pn ++ pins,p.1 ≠ it) : Inv X pins σ H { s with heap := h',toks := t' } := by
 have nit : ∀ b u,H b = some u -> b ≠ it := fun b u e z => by rw [z,hn] at e; cases e
 refine I.step (g' := s.gens) (d' := s.drawn) (ch := [it]) (fun b hb => ?_) (fun b o _ _ hc e _ => k b o (fun z => hc (by simp [z])) e) (fun b o _ _ hc e _ => ⟨o.slots,k b o (fun z => hc (by simp [z])) e⟩) (fun _ _ _ _ n => n)
  (fun b o hc e => ⟨o,k b o (fun z => hc (by simp [z])) e⟩) (fun _ _ e => e) (fun _ _ _ e => e) (fun b ps e => ⟨#[],by rw [e]; simp⟩) (fun m hm => ?_) (fun b u e => ?_) I.bare
 . have e : b = it := by simpa using hb
   subst e
   exact ⟨h1,hL,h2,h3⟩
 . obtain ⟨o,es,ep,ho,r⟩ := hm
   exact ⟨o,es,ep,k _ o (Ne.symm hL) ho,r⟩
 . refine (I.hok b u e).stay (fun c v hc q => k c v ?_ q) (fun _ q => q) fun _ _ q => q
   rcases hc with z | z
   . rw [z]; exact nit b u e
   . exact nit c _ z
theorem Inv.tok (I : Inv X pins σ H s) (t : Nat) : Inv X pins σ H { s with toks := t } := I.un (h' := s.heap) (t' := t) Un.refl I.hok
theorem Inv.kept {t' : Nat} (I : Inv X pins σ H s) (k : ∀ b u,s.heap.get? b = some u -> h'.get? b = some u) : Inv X pins σ H { s with heap := h',toks := t' } := I.un (Un.kept k) (I.hok.kept k)
theorem Inv.laid {a : Addr} {o : HO} {t' : Nat} (I : Inv X pins σ H s) (k : ∀ b u,s.heap.get? b = some u -> h'.get? b = some u) (hp : s.heap.objs.size <= a) (new : ObjOk X.prog X.w (upd H a o) h' a o) :
 Inv X pins σ (upd H a o) { s with heap := h',toks := t' } := I.un (Un.laid k hp (I.hok.fresh hp)) (I.hok.laid k hp new)
theorem Inv.write {x e : Addr} {o : HO} {t' : Nat} (I : Inv X pins σ H s) (mu : Mut (H x)) (he : e = x \/ H e = some (.own x)) (k : ∀ b u,b ≠ e -> s.heap.get? b = some u -> h'.get? b = some u) (heo : ∃ u,h'.get? e = some u)
 (new : ObjOk X.prog X.w (upd H x o) h' x o) : Inv X pins σ (upd H x o) { s with heap := h',toks := t' } := I.un (Un.write mu he k heo) (I.hok.write mu he k heo new)
theorem Inv.pins_of {pins' : List (Addr × Obj)} (I : Inv X pins σ H s) (h : ∀ p ∈ pins',s.heap.get? p.1 = some p.2 /\ H p.1 = none /\ p.1 ≠ X.env.locals /\ p.1 ∉ X.fs /\ ∀ v,p.2.data ≠ .cell v) : Inv X pins' σ H s :=
 ⟨I.ok,I.os,I.bare,I.base,I.loc,I.cell,I.free,I.freeC,fun p hp => (List.mem_append.mp hp).elim (fun z => I.pin p (List.mem_append_left _ z)) (h p),I.hok,I.len⟩
theorem Zc {N : List Str} (hN : N.Nodup) {i j : Nat} {x : Str} (a : N[i]? = some x) (b : N[j]? = some x) : i = j := by
 obtain ⟨h1,e1⟩ := List.getElem?_eq_some_iff.mp a
 obtain ⟨h2,e2⟩ := List.getElem?_eq_some_iff.mp b
 exact (List.getElem_inj hN).mp (e1.trans e2.symm)
theorem Np {M : Model} {A : Around} {E : Value -> Shared -> Prop} {i : Nat} {x : Str} {v : V} {u : Value} {Q : Unit -> Shared -> Prop} (I : Inv X pins σ H s) (hN : X.N.Nodup) (hi : X.N[i]? = some x) (hx : Loc X.env.scope x) (r : RelV v u)
 (h : ∀ s',Inv X pins (σ.set i (some v)) H s' -> (∃ a,Heap.SameBut a s.heap s'.heap /\ (a = X.env.locals \/ X.env.cells.lookup x = some a)) -> Q () s') (hf : X.fn x = true \/ X.env.scope.names.lookup x = some .local := by first | exact .inl rfl | exact .inr rfl | assumption) : wpAny M A (storeName X.env x u) Q E s := by
 obtain ⟨m,hn,hl⟩ := id I.loc
 have hcls : (X.env.scope.kind == .class || (X.env.scope.kind == .module && X.env.locals != X.env.globals)) = false := by rw [I.ok.kind]; rfl
 have hiσ : i < σ.length := by rw [I.len]; exact (List.getElem?_eq_some_iff.mp hi).1
 have cne := I.cne
 have tracked : ∀ {a : Addr} {h' : Heap},(∃ o,s.heap.get? a = some o /\ H a = none) -> Heap.SameBut a s.heap h' -> HOk X.prog X.w H h' := fun {a h'} ha hs b ob e => by
  obtain ⟨_,_,hfree⟩ := ha
  refine (I.hok b ob e).stay (fun c w' hc q => (hs.2 c ?_).trans q) (fun _ q => q) fun _ _ q => q
  rintro rfl
  rcases hc with rfl | hc
  . rw [hfree] at e; cases e
  . rw [hfree] at hc; cases hc
 rcases hx with hk | hk
 . refine wpAny_storeName_local hk hn (fun h' hn' hs => ?_) hcls
   obtain ⟨oL,_,_,hoL,_⟩ := id hn
   refine h _ ⟨I.ok,I.os,I.bare,⟨fun b o e n hb hx => ?_,fun b o e n hb hx => ?_,I.base.free,fun b o e hx => ?_,I.base.tups,I.base.frzs,I.base.tbls⟩,⟨_,hn',fun j y v' e1 e2 e3 => ?_⟩,fun y c e => ?_,I.free,I.freeC,fun p hp => ?_,tracked ⟨oL,hoL,I.free⟩ hs,by simpa using I.len⟩ ⟨_,hs,.inl rfl⟩
   . exact (hs.2 b (Nat.ne_of_lt (Nat.lt_of_lt_of_le (Heap.lt_size e) I.ok.above))).trans (I.base.keep b o e n hb hx)
   . obtain ⟨sl,e1⟩ := I.base.slot b o e n hb hx
     exact ⟨sl,(hs.2 b (Nat.ne_of_lt (Nat.lt_of_lt_of_le (Heap.lt_size e) I.ok.above))).trans e1⟩
   . obtain ⟨o',e1⟩ := I.base.there b o e hx
     exact ⟨o',(hs.2 b (Nat.ne_of_lt (Nat.lt_of_lt_of_le (Heap.lt_size e) I.ok.above))).trans e1⟩
   . by_cases hj : j = i
     . subst hj
       rw [hi] at e1; cases e1
       rw [List.getElem?_set_self hiσ] at e2
       cases e2
       exact ⟨u,r,.inl ⟨hk,by simp⟩⟩
     . rw [List.getElem?_set_ne (Ne.symm hj)] at e2
       obtain ⟨u',r',q⟩ := hl j y v' e1 e2 e3
       refine ⟨u',r',?_⟩
       rcases q with ⟨k,e⟩ | ⟨k,c,e,z⟩
       . refine .inl ⟨k,?_⟩
         have : y ≠ x := fun e => hj (Zc hN e1 (e ▸ hi))
         simp [this,e]
       . exact .inr ⟨k,c,e,z.sameBut hs (cne y c e)⟩
   . obtain ⟨w',z⟩ := I.cell y c e
     exact ⟨w',z.sameBut hs (cne y c e)⟩
   . obtain ⟨e,n,ne,nf,d⟩ := I.pin p hp
     exact ⟨(hs.2 p.1 ne).trans e,n,ne,nf,d⟩
 . have hfn : X.fn x = true := by
    rcases hf with z | z
    . exact z
    . rw [z] at hk; cases hk
   obtain ⟨c,hc⟩ := I.ok.has x (.inl hk)
   obtain ⟨w',z⟩ := I.cell x c hc
   refine wpAny_storeName_cell I.ok.kind hk hc z (fun h' hc' hs => ?_)
   obtain ⟨oc,hoc,hocd⟩ := id z
   refine h { s with heap := h' } ⟨I.ok,I.os,I.bare,⟨fun b o e n hb hx => ?_,fun b o e n hb hx => ?_,I.base.free,fun b o e hx => ?_,I.base.tups,I.base.frzs,I.base.tbls⟩,⟨m,hn.sameBut hs (Ne.symm (cne x c hc)),fun j y v' e1 e2 e3 => ?_⟩,fun y c' e => ?_,I.free,I.freeC,fun p hp => ?_,tracked ⟨oc,hoc,I.freeC x c hc⟩ hs,by simpa using I.len⟩ ⟨c,hs,.inr hc⟩
   . exact (hs.2 b (Nat.ne_of_lt (Nat.lt_of_lt_of_le (Heap.lt_size e) (I.ok.cab x c hfn hc)))).trans (I.base.keep b o e n hb hx)
   . obtain ⟨sl,e1⟩ := I.base.slot b o e n hb hx
     exact ⟨sl,(hs.2 b (Nat.ne_of_lt (Nat.lt_of_lt_of_le (Heap.lt_size e) (I.ok.cab x c hfn hc)))).trans e1⟩
   . obtain ⟨o',e1⟩ := I.base.there b o e hx
     exact ⟨o',(hs.2 b (Nat.ne_of_lt (Nat.lt_of_lt_of_le (Heap.lt_size e) (I.ok.cab x c hfn hc)))).trans e1⟩
   . by_cases hj : j = i
     . subst hj
       rw [hi] at e1; cases e1
       rw [List.getElem?_set_self hiσ] at e2
       cases e2
       exact ⟨u,r,.inr ⟨.inl hk,c,hc,hc'⟩⟩
     . rw [List.getElem?_set_ne (Ne.symm hj)] at e2
       obtain ⟨u',r',q⟩ := hl j y v' e1 e2 e3
       refine ⟨u',r',?_⟩
       rcases q with q | ⟨k,c',e,z'⟩
       . exact .inl q
       . refine .inr ⟨k,c',e,z'.sameBut hs ?_⟩
         rintro rfl
         exact hj (Zc hN e1 (I.ok.inj _ _ _ e hc ▸ hi))
   . by_cases hcc : c' = c
     . subst hcc; exact ⟨_,hc'⟩
     . obtain ⟨w2,z2⟩ := I.cell y c' e
       exact ⟨w2,z2.sameBut hs hcc⟩
   . obtain ⟨e,n,ne,nf,d⟩ := I.pin p hp
     refine ⟨(hs.2 p.1 ?_).trans e,n,ne,nf,d⟩
     intro q
     rw [q,hoc] at e
     have q' : oc = p.2 := Option.some.inj e
     exact d w' (by rw [← q']; exact hocd)
theorem Y1 {M : Model} {A : Around} {E : Value -> Shared -> Prop} {i : Nat} {x : Str} {v : V} {u : Value} {Q : Unit -> Shared -> Prop} (I : Inv X pins σ H s) (hN : X.N.Nodup) (hi : X.N[i]? = some x) (hx : Loc X.env.scope x) (r : RelV v u)
 (h : ∀ s',Inv X pins (σ.set i (some v)) H s' -> Q () s') (hf : X.fn x = true \/ X.env.scope.names.lookup x = some .local := by first | exact .inl rfl | exact .inr rfl | assumption) : wpAny M A (storeName X.env x u) Q E s :=
 Np I hN hi hx r (fun s' I' _ => h s' I') hf
theorem Inv.call' {s' : Shared} {ch : List Addr} (I : Inv X pins σ H s) (ho : s'.os = s.os) (u : Un (frs X.stack) ch H H' s.heap s'.heap) (hok : HOk X.prog X.w H' s'.heap) (hg : AllBare s'.gens)
 (hch : ∀ b ∈ ch,(b ∈ X.ex \/ X.s₀.heap.objs.size <= b) /\ b ≠ X.env.locals /\ (∀ x c,X.env.cells.lookup x = some c -> c ≠ b) /\ ∀ p ∈ X.pn ++ pins,p.1 ≠ b) : Inv X pins σ H' s' := by
 obtain ⟨h',g',d',t',o'⟩ := s'
 have e : o' = s.os := ho
 subst e
 exact I.call (g' := g') (t' := t') (d' := d') u hok hg hch
end
abbrev XK := Value -> Option Addr -> Hp -> Prop
abbrev St := List (Option V)
abbrev VK := V -> Hp -> Prop
abbrev TE := St -> Hp -> VK -> Prop
abbrev TT := St -> Hp -> (Bool -> Hp -> Prop) -> Prop
abbrev TA := St -> Hp -> (List V -> Hp -> Prop) -> Prop
structure Ends where
 nx : St -> Hp -> Prop
 rt : VK
 bk : St -> Hp -> Prop := fun _ _ => False
 ct : St -> Hp -> Prop := fun _ _ => False
abbrev TS := Ends -> St -> Hp -> Prop
def EP (X : Cx) (pins : List (Addr × Obj)) (σ : St) (Q : VK) (u : Value) (s' : Shared) : Prop := ∃ v H',Inv X pins σ H' s' /\ RelV v u /\ Q v H'
def TP (X : Cx) (pins : List (Addr × Obj)) (σ : St) (Q : Bool -> Hp -> Prop) (b : Bool) (s' : Shared) : Prop := ∃ H',Inv X pins σ H' s' /\ Q b H'
def AP (X : Cx) (pins : List (Addr × Obj)) (σ : St) (Q : List V -> Hp -> Prop) (us : List Value) (s' : Shared) : Prop := ∃ vs H',Inv X pins σ H' s' /\ Vals vs us /\ Q vs H'
def SP (X : Cx) (pins : List (Addr × Obj)) (D : Ends) (f : Flow) (s' : Shared) : Prop :=
 match f with
 | .next => ∃ σ' H',Inv X pins σ' H' s' /\ D.nx σ' H'
 | .brk => ∃ σ' H',Inv X pins σ' H' s' /\ D.bk σ' H'
 | .cont => ∃ σ' H',Inv X pins σ' H' s' /\ D.ct σ' H'
 | .ret u => ∃ v σ' H',Inv X pins σ' H' s' /\ RelV v u /\ D.rt v H'
def PE (X : Cx) (e : Expr) (t : TE) : Prop :=
 ∀ (pins : List (Addr × Obj)) (s : Shared) (σ : St) (H : Hp) (Q : VK),Inv X pins σ H s -> t σ H Q -> wpAny (model X.prog X.w) X.A (eval e X.env) (EP X pins σ Q) X.xe s
def PT (X : Cx) (e : Expr) (t : TT) : Prop :=
 ∀ (pins : List (Addr × Obj)) (s : Shared) (σ : St) (H : Hp) (Q : Bool -> Hp -> Prop),Inv X pins σ H s -> t σ H Q -> wpAny (model X.prog X.w) X.A (isTrue e X.env (eval e X.env)) (TP X pins σ Q) X.xe s
def PW (X : Cx) (e : Expr) (t : TT) : Prop :=
 ∀ (whole : Sem Value) (pins : List (Addr × Obj)) (s : Shared) (σ : St) (H : Hp) (Q : Bool -> Hp -> Prop),Inv X pins σ H s -> t σ H Q -> wpAny (model X.prog X.w) X.A (isTrue e X.env whole) (TP X pins σ Q) X.xe s
theorem PW.pt {X : Cx} {e : Expr} {t : TT} (h : PW X e t) : PT X e t := h _
def PA (X : Cx) (es : List Expr) (t : TA) : Prop :=
 ∀ (pos : Pos) (pins : List (Addr × Obj)) (s : Shared) (σ : St) (H : Hp) (Q : List V -> Hp -> Prop),Inv X pins σ H s -> t σ H Q -> wpAny (model X.prog X.w) X.A (spliced (backTo pos (starEach es X.env))) (AP X pins σ Q) X.xe s
def PS (X : Cx) (st : Stmt) (t : TS) : Prop :=
 ∀ (pins : List (Addr × Obj)) (s : Shared) (σ : St) (H : Hp) (D : Ends),Inv X pins σ H s -> t D σ H -> wpAny (model X.prog X.w) X.A (exec st X.env) (SP X pins D) X.xe s
def PSs (X : Cx) (st : List Stmt) (t : TS) : Prop :=
 ∀ (pins : List (Addr × Obj)) (s : Shared) (σ : St) (H : Hp) (D : Ends),Inv X pins σ H s -> t D σ H -> wpAny (model X.prog X.w) X.A (execs st X.env) (SP X pins D) X.xe s
theorem thn {α : Type} {t : Sem α} {Q Q' : α -> Shared -> Prop} {M : Model} {A : Around} {E : Value -> Shared -> Prop} {s : Shared} (h : wpAny M A t Q E s) (hQ : ∀ a s,Q a s -> Q' a s) : wpAny M A t Q' E s := wpAny_mono h hQ fun _ _ x => x
end L2
namespace L2
open PySem PySem.Spec PyProof.Rows
section
variable {X : Cx}
theorem bin {a b : Expr} {ta tb : TE} (ha : PE X a ta) (hb : PE X b tb) {pins : List (Addr × Obj)} {s : Shared} {σ : St} {H : Hp} {R : V -> V -> Hp -> Prop} (I : Inv X pins σ H s) (h : ta σ H fun x H1 => tb σ H1 fun y H2 => R x y H2)
 {α : Type} {Q : α -> Shared -> Prop} {f : Value -> Value -> Sem α}
 (hf : ∀ v u s2 x y H2,Inv X pins σ H2 s2 -> RelV x v -> RelV y u -> R x y H2 -> wpAny (model X.prog X.w) X.A (f v u) Q X.xe s2) :
 wpAny (model X.prog X.w) X.A (eval a X.env) (fun v s₁ => wpAny (model X.prog X.w) X.A (eval b X.env) (fun u s₂ => wpAny (model X.prog X.w) X.A (f v u) Q X.xe s₂) X.xe s₁) X.xe s := by
 refine thn (ha pins s σ H _ I h) fun v s1 ⟨x,H1,I1,r1,q1⟩ => ?_
 refine thn (hb pins s1 σ H1 _ I1 q1) fun u s2 ⟨y,H2,I2,r2,q2⟩ => ?_
 exact hf v u s2 x y H2 I2 r1 r2 q2
def tVar (i : Nat) : TE := fun σ H Q => ∃ v,σ[i]? = some (some v) /\ Q v H
def tC (v : V) : TE := fun _ H Q => Q v H
theorem A37 {i : Nat} {x : Str} {pos : Pos} (hN : X.N[i]? = some x) (hv : Vis X.env.scope x) (hd : (x == ("__debug__" : Str)) = false := by decide) (hcd : (x == ("__classdict__" : Str)) = false := by decide) : PE X (.Name x pos) (tVar i) := by
 intro pins s σ H Q I h
 obtain ⟨v,e,h⟩ := h
 obtain ⟨m,hn,hl⟩ := I.loc
 obtain ⟨u,r,l⟩ := hl i x v hN e hv
 have fin : EP X pins σ Q u s := ⟨v,H,I,r,h⟩
 rcases l with ⟨hk,hm⟩ | ⟨hk,c,hc,hcell⟩
 . exact wpAny_Name (wpAny_loadName_local I.ok.kind hk hn hm fin) hd
 . rcases hk with hk | hk
   . exact wpAny_Name (wpAny_loadName_cell I.ok.kind hk hc hcell fin) hd
   . exact wpAny_Name (wpAny_loadName_free I.ok.kind hk hc hcell fin hcd) hd
theorem Ah {i j pos} : PE X (.Constant (.int i) j pos) (tC (.int i)) := fun _ _ _ H _ I h => wpAny_Constant_int ⟨.int i,H,I.tok _,⟨_,rfl⟩,h⟩
theorem Da {b j pos} : PE X (.Constant (.bool b) j pos) (tC (.bl b)) := fun _ _ _ H _ I h => Constant_bool ⟨.bl b,H,I,rfl,h⟩
theorem Mu {j pos} : PE X (.Constant .none j pos) (tC .non) := fun _ _ _ H _ I h => Constant_none ⟨.non,H,I,rfl,h⟩
def Gl (X : Cx) (x : Str) : Prop := X.env.kindOf x = some .globalImplicit
theorem Tw {E : Value -> Shared -> Prop} {pins : List (Addr × Obj)} {s : Shared} {σ : St} {H : Hp} {x : Str} {u : Value} {pos : Pos} {Q : Value -> Shared -> Prop} (I : Inv X pins σ H s) (hg : Gl X x) (hm : X.mg x = some u) (h : Q u s)
 (hd : (x == ("__debug__" : Str)) = false := by decide) : wpAny (model X.prog X.w) X.A (eval (.Name x pos) X.env) Q E s :=
 Calls.Name_function_global I.ok.kind hg (Calls.loadGlobal_global (by rw [I.ok.glob]; exact I.mod.glob.keeps I.bk) hm h) hd
theorem Jc {E : Value -> Shared -> Prop} {pins : List (Addr × Obj)} {s : Shared} {σ : St} {H : Hp} {x : Str} {u : Value} {pos : Pos} {Q : Value -> Shared -> Prop} (I : Inv X pins σ H s) (hg : Gl X x) (hm : X.mg x = none) (hv : bootBuiltins x = some u) (h : Q u s)
 (hn : x ≠ "__name__" := by decide) (hd : (x == ("__debug__" : Str)) = false := by decide) : wpAny (model X.prog X.w) X.A (eval (.Name x pos) X.env) Q E s := by
 obtain ⟨mb,h1,h2⟩ := I.mod.blt
 exact Calls.Name_function_global I.ok.kind hg (Calls.loadGlobal_builtin (by rw [I.ok.glob]; exact I.mod.glob.keeps I.bk) hm (by rw [I.ok.blt]; exact h1.keeps I.bk) ((h2 x hn).trans hv) h) hd
theorem Xr {x : Str} {v : V} {u : Value} {pos : Pos} (hg : Gl X x) (hm : X.mg x = some u) (r : RelV v u) (hd : (x == ("__debug__" : Str)) = false := by decide) : PE X (.Name x pos) (tC v) :=
 fun _ _ _ H _ I h => Tw I hg hm ⟨v,H,I,r,h⟩ hd
theorem F1 {x : Str} {v : V} {u : Value} {pos : Pos} (hg : Gl X x) (hm : X.mg x = none) (hv : bootBuiltins x = some u) (r : RelV v u) (hn : x ≠ "__name__" := by decide) (hd : (x == ("__debug__" : Str)) = false := by decide) : PE X (.Name x pos) (tC v) :=
 fun _ _ _ H _ I h => Jc I hg hm hv ⟨v,H,I,r,h⟩ hn hd
variable {a b : Expr} {ta tb : TE} {pos : Pos}
def PC (X : Cx) (op : CmpOp) (a b : Expr) (t : TE) : Prop :=
 ∀ (pins : List (Addr × Obj)) (s : Shared) (σ : St) (H : Hp) (Q : VK),Inv X pins σ H s -> t σ H Q →
   wpAny (model X.prog X.w) X.A (eval a X.env) (fun v s₁ => wpAny (model X.prog X.w) X.A (eval b X.env) (fun u s₂ => wpAny (model X.prog X.w) X.A (compareOp op v u) (EP X pins σ Q) X.xe s₂) X.xe s₁) X.xe s
theorem Aq0 (b : Expr) {op : CmpOp} (h : op ≠ .In) (h2 : op ≠ .NotIn) : behindInMarks op b = false := by
 have e1 : (op == CmpOp.In) = false := by cases op <;> first | rfl | exact absurd rfl h
 have e2 : (op == CmpOp.NotIn) = false := by cases op <;> first | rfl | exact absurd rfl h2
 cases b <;> simp [behindInMarks,e1,e2]
def tB (t : TE) : TT := fun σ H Q => t σ H fun x H1 => ∃ c,x = .bl c /\ Q c H1
theorem Bb3 {op : CmpOp} {t : TE} (h : PC X op a b t) (h1 : behindInMarks op b = false := by first | exact Aq0 _ (by decide) (by decide) | rfl) : PT X (.Compare a [op] [b] pos) (tB t) := by
 intro pins s σ H Q I hw
 refine wpAny_isTrue_Compare1 (thn (h pins s σ H _ I hw) fun v s1 h1 => thn h1 fun u s2 h2 => thn h2 fun c s3 ⟨x,H1,I1,r1,q1⟩ => ?_) h1
 obtain ⟨d,rfl,q⟩ := q1
 cases r1
 exact wpAny_truthy_bool ⟨H1,I1,q⟩
theorem Ca {e : Expr} {t : TE} (h : PE X e t) (he : ∀ whole,isTrue e X.env whole = (do let v ← whole; standAt e.pos; holding [v] (truthy v)) := by intro _; rfl) : PT X e (tB t) := by
 intro pins s σ H Q I hw
 refine isTrue_plain (thn (h pins s σ H _ I hw) fun v s1 ⟨x,H1,I1,r1,q1⟩ => ?_) (he _)
 obtain ⟨d,rfl,q⟩ := q1
 cases r1
 exact wpAny_truthy_bool ⟨H1,I1,q⟩
variable {tA tB' : TT} {rest : List Expr}
def tAnd (t u : TT) : TT := fun σ H Q => t σ H fun c H1 => if c = true then u σ H1 Q else Q false H1
def tOr (t u : TT) : TT := fun σ H Q => t σ H fun c H1 => if c = true then Q true H1 else u σ H1 Q
def tNot (t : TT) : TT := fun σ H Q => t σ H fun c H1 => Q (!c) H1
theorem Fw (ha : PT X a tA) : PW X (.BoolOp .And [a] pos) tA := by
 intro wh pins s σ H Q I h
 refine isTrue_and (thn (ha pins s σ H Q I h) fun c s1 e => ?_)
 cases c with
 | true => exact isTrue_and_nil e
 | false => exact e
theorem Iz (ha : PT X a tA) : PW X (.BoolOp .Or [a] pos) tA := by
 intro wh pins s σ H Q I h
 refine isTrue_or (thn (ha pins s σ H Q I h) fun c s1 e => ?_)
 cases c with
 | false => exact isTrue_or_nil e
 | true => exact e
theorem Kg (ha : PT X a tA) (hb : PW X (.BoolOp .And (b :: rest) pos) tB') : PW X (.BoolOp .And (a :: b :: rest) pos) (tAnd tA tB') := by
 intro wh pins s σ H Q I h
 refine isTrue_and (thn (ha pins s σ H _ I h) fun c s1 ⟨H1,I1,q1⟩ => ?_)
 cases c with
 | true => exact hb wh pins s1 σ H1 Q I1 q1
 | false => exact ⟨H1,I1,q1⟩
theorem Kf (ha : PT X a tA) (hb : PW X (.BoolOp .Or (b :: rest) pos) tB') : PW X (.BoolOp .Or (a :: b :: rest) pos) (tOr tA tB') := by
 intro wh pins s σ H Q I h
 refine isTrue_or (thn (ha pins s σ H _ I h) fun c s1 ⟨H1,I1,q1⟩ => ?_)
 cases c with
 | true => exact ⟨H1,I1,q1⟩
 | false => exact hb wh pins s1 σ H1 Q I1 q1
theorem C0 (ha : PT X a tA) : PT X (.UnaryOp .Not a pos) (tNot tA) := by
 intro pins s σ H Q I h
 exact isTrue_not (ha pins s σ H (fun c H1 => Q (!c) H1) I h)
def A91 (ta tb : TE) : TE := fun σ H Q => ta σ H fun x H1 => ∃ c,x = .bl c /\ if c = true then tb σ H1 Q else Q (.bl false) H1
def tOrV (ta tb : TE) : TE := fun σ H Q => ta σ H fun x H1 => ∃ c,x = .bl c /\ if c = true then Q (.bl true) H1 else tb σ H1 Q
def A85 (ta : TE) : TE := fun σ H Q => ta σ H fun x H1 => ∃ c,x = .bl c /\ Q (.bl (!c)) H1
theorem Rt {op} {t : TE} (h : PE X a t) : PE X (.BoolOp op [a] pos) t := fun pins s σ H Q I hw => BoolOp_one (h pins s σ H Q I hw)
theorem Ve (ha : PE X a ta) (hb : PE X (.BoolOp .And (b :: rest) pos) tb) : PE X (.BoolOp .And (a :: b :: rest) pos) (A91 ta tb) := by
 intro pins s σ H Q I h
 refine BoolOp_and (thn (ha pins s σ H _ I h) fun v s1 ⟨x,H1,I1,r1,q1⟩ => ?_)
 obtain ⟨c,rfl,q1⟩ := q1
 cases r1
 refine wpAny_truthy_bool ?_
 cases c with
 | true => exact hb pins s1 σ H1 Q I1 q1
 | false => exact ⟨.bl false,H1,I1,rfl,q1⟩
theorem A94 (ha : PE X a ta) (hb : PE X (.BoolOp .Or (b :: rest) pos) tb) : PE X (.BoolOp .Or (a :: b :: rest) pos) (tOrV ta tb) := by
 intro pins s σ H Q I h
 refine BoolOp_or (thn (ha pins s σ H _ I h) fun v s1 ⟨x,H1,I1,r1,q1⟩ => ?_)
 obtain ⟨c,rfl,q1⟩ := q1
 cases r1
 refine wpAny_truthy_bool ?_
 cases c with
 | false => exact hb pins s1 σ H1 Q I1 q1
 | true => exact ⟨.bl true,H1,I1,rfl,q1⟩
theorem At2 (ha : PE X a ta) : PE X (.UnaryOp .Not a pos) (A85 ta) := by
 intro pins s σ H Q I h
 refine UnaryOp_ (thn (ha pins s σ H _ I h) fun v s1 ⟨x,H1,I1,r1,q1⟩ => ?_)
 obtain ⟨c,rfl,q1⟩ := q1
 cases r1
 exact not_of (wpAny_truthy_bool ⟨.bl (!c),H1,I1,rfl,q1⟩)
def tIf (t : TT) (ta tb : TE) : TE := fun σ H Q => t σ H fun c H1 => if c = true then ta σ H1 Q else tb σ H1 Q
theorem Ao8 {c : Expr} (hc : PT X c tA) (ha : PE X a ta) (hb : PE X b tb) : PE X (.IfExp c a b pos) (tIf tA ta tb) := by
 intro pins s σ H Q I h
 refine wpAny_IfExp (thn (hc pins s σ H _ I h) fun d s1 ⟨H1,I1,q1⟩ => ?_)
 cases d with
 | true => exact ha pins s1 σ H1 Q I1 q1
 | false => exact hb pins s1 σ H1 Q I1 q1
end
end L2
namespace L2
open PySem PySem.Spec PyProof.Rows
def SqL (K : W.Frag) (H : Hp) (a : Addr) (xs : List V) : Prop :=
 Rd H a (.lst xs) ∨
  ∃ (o : Obj) (its : Array Value) (n : Nat),K.lookup a = some o /\ o.cls = .type "list" /\ o.dict = none /\ o.data = .seq its n /\ its.size <= sizeLine /\ Vals xs its.toList
def SqT (K : W.Frag) (H : Hp) (a : Addr) (xs : List V) : Prop :=
 Rd H a (.tup xs) ∨
  ∃ (o : Obj) (its : Array Value) (n : Nat),K.lookup a = some o /\ o.cls = .type "tuple" /\ o.dict = none /\ o.data = .seq its n /\ its.size <= sizeLine /\ Vals xs its.toList
def absV : Value -> Option V
 | .none => some .non
 | .bool b => some (.bl b)
 | .int i _ => some (.int i)
 | .str x _ => some (.str x)
 | .bytes b _ => some (.byt b)
 | .float b _ => some (.flt b)
 | .ref a => some (.ref a)
 | .type n => some (.ty n)
 | _ => none
theorem RelV.abs {x : V} {u : Value} (r : RelV x u) : absV u = some x := by
 cases x with
 | non => cases r; rfl
 | bl _ => cases r; rfl
 | int _ => obtain ⟨t,rfl⟩ := r; rfl
 | str _ => obtain ⟨t,rfl⟩ := r; rfl
 | byt _ => obtain ⟨t,rfl⟩ := r; rfl
 | flt _ => obtain ⟨t,rfl⟩ := r; rfl
 | ref _ => cases r; rfl
 | ty _ => cases r; rfl
theorem RelV.inj {x y : V} {u : Value} (r : RelV x u) (q : RelV y u) : x = y := Option.some.inj (r.abs.symm.trans q.abs)
theorem Vals.inj : ∀ {xs ys : List V} {us : List Value},Vals xs us -> Vals ys us -> xs = ys
 | _,_,_,.nil,.nil => rfl
 | _,_,_,.cons r t,.cons r' t' => by rw [r.inj r',Vals.inj t t']
section
variable {X : Cx} {pins : List (Addr × Obj)} {σ : St} {H : Hp} {s : Shared} {a : Addr} {xs ys : List V}
theorem SqL.of {K : W.Frag} (h : H a = some (.lst xs)) : SqL K H a xs := .inl (.inl h)
theorem SqT.of {K : W.Frag} (h : H a = some (.tup xs)) : SqT K H a xs := .inl (.inl h)
theorem Inv.list (I : Inv X pins σ H s) (h : SqL X.K H a xs) : ∃ its : List Value,Vals xs its /\ PlainL s.heap a its.toArray /\ xs.length <= sizeLine := by
 rcases h with h | ⟨o,its,n,hk,hc,hd,hs,hz,r⟩
 . obtain ⟨z,its,n,r,e⟩ := h.ok I.hok
   exact ⟨its,r,⟨_,n,e,rfl,rfl,rfl⟩,z⟩
 . refine ⟨its.toList,r,⟨o,n,I.kIn a o hk,hc,hd,by simpa using hs⟩,?_⟩
   have e := r.length
   simp only [Array.length_toList] at e
   omega
theorem Inv.tuple (I : Inv X pins σ H s) (h : SqT X.K H a xs) : ∃ its : List Value,Vals xs its /\ IsTup s.heap a its.toArray /\ xs.length <= sizeLine := by
 rcases h with h | ⟨o,its,n,hk,hc,_,hs,hz,r⟩
 . obtain ⟨z,its,r,p⟩ := h.ok I.hok
   exact ⟨its,r,p.tup,z⟩
 . refine ⟨its.toList,r,⟨o,I.kIn a o hk,hc,n,by simpa using hs⟩,?_⟩
   have e := r.length
   simp only [Array.length_toList] at e
   omega
theorem Inv.list_inj (I : Inv X pins σ H s) (h : SqL X.K H a xs) (h' : SqL X.K H a ys) : xs = ys := by
 obtain ⟨its,r,⟨o,n,e,_,_,d⟩,_⟩ := I.list h
 obtain ⟨its',r',⟨o',n',e',_,_,d'⟩,_⟩ := I.list h'
 rw [e] at e'; cases e'
 rw [d] at d'
 injection d' with d1 _
 have : its = its' := by simpa using congrArg Array.toList d1
 subst this
 exact r.inj r'
theorem Inv.tuple_inj (I : Inv X pins σ H s) (h : SqT X.K H a xs) (h' : SqT X.K H a ys) : xs = ys := by
 obtain ⟨its,r,⟨o,e,_,n,d⟩,_⟩ := I.tuple h
 obtain ⟨its',r',⟨o',e',_,n',d'⟩,_⟩ := I.tuple h'
 rw [e] at e'; cases e'
 rw [d] at d'
 injection d' with d1 _
 have : its = its' := by simpa using congrArg Array.toList d1
 subst this
 exact r.inj r'
end
abbrev Cx.wish (X : Cx) (E : Value -> Shared -> Prop) : Cx := { X with xe := E }
abbrev Cx.nox (X : Cx) : Cx := X.wish fun _ _ => False
theorem Cx.Ok.wish {X : Cx} (ok : X.Ok) (E : Value -> Shared -> Prop) : (X.wish E).Ok :=
 ⟨ok.mod,ok.kind,ok.glob,ok.blt,ok.above,ok.inj,ok.has,ok.cab,ok.hd,ok.frames,ok.stk,ok.exf,ok.bs,ok.bsz,ok.noex,ok.exfs,ok.funs,ok.frf⟩
theorem Cx.Ok.unwish {X : Cx} {E : Value -> Shared -> Prop} (ok : (X.wish E).Ok) : X.Ok :=
 ⟨ok.mod,ok.kind,ok.glob,ok.blt,ok.above,ok.inj,ok.has,ok.cab,ok.hd,ok.frames,ok.stk,ok.exf,ok.bs,ok.bsz,ok.noex,ok.exfs,ok.funs,ok.frf⟩
section
variable {X : Cx} {pins : List (Addr × Obj)} {σ : St} {H : Hp} {s : Shared} {E : Value -> Shared -> Prop}
theorem Inv.wish (I : Inv X pins σ H s) (E : Value -> Shared -> Prop) : Inv (X.wish E) pins σ H s := ⟨I.ok.wish E,I.os,I.bare,I.base,I.loc,I.cell,I.free,I.freeC,I.pin,I.hok,I.len⟩
theorem Inv.unwish (I : Inv (X.wish E) pins σ H s) : Inv X pins σ H s := ⟨I.ok.unwish,I.os,I.bare,I.base,I.loc,I.cell,I.free,I.freeC,I.pin,I.hok,I.len⟩
theorem SP.unwish {D : Ends} {f : Flow} {s' : Shared} (h : SP (X.wish E) pins D f s') : SP X pins D f s' := by
 cases f with
 | next => obtain ⟨σ',H',I,q⟩ := h; exact ⟨σ',H',I.unwish,q⟩
 | brk => obtain ⟨σ',H',I,q⟩ := h; exact ⟨σ',H',I.unwish,q⟩
 | cont => obtain ⟨σ',H',I,q⟩ := h; exact ⟨σ',H',I.unwish,q⟩
 | ret u => obtain ⟨v,σ',H',I,r,q⟩ := h; exact ⟨v,σ',H',I.unwish,r,q⟩
theorem PSs.nox {st : List Stmt} {t : TS} (h : PSs X.nox st t) : PSs X st t := fun pins s σ H D I hw =>
 wpAny_mono (h pins s σ H D (I.wish _) hw) (fun _ _ q => q.unwish) fun _ _ z => False.elim z
end
section
variable {X : Cx} {st : Stmt} {rest : List Stmt} {t u : TS} {e : Expr} {te : TE} {pos : Pos}
def A86 : TS := fun D σ H => D.nx σ H
def tSeq (t u : TS) : TS := fun D σ H => t { D with nx := u D } σ H
theorem Aq : PSs X [] A86 := fun _ _ σ H _ I h => wpAny_execs_nil ⟨σ,H,I,h⟩
theorem Ac (h1 : PS X st t) (h2 : PSs X rest u) : PSs X (st :: rest) (tSeq t u) := by
 intro pins s σ H D I h
 refine wpAny_execs_cons (thn (h1 pins s σ H { D with nx := u D } I h) fun f s1 q => ?_)
 cases f with
 | next =>
   obtain ⟨σ',H',I',q⟩ := q
   exact h2 pins s1 σ' H' D I' q
 | ret v => exact q
 | brk => exact q
 | cont => exact q
theorem Ag (h1 : PS X st t) : PSs X [st] t := by
 intro pins s σ H D I h
 refine wpAny_execs_cons (thn (h1 pins s σ H D I h) fun f s1 q => ?_)
 cases f with
 | next => exact wpAny_execs_nil q
 | ret v => exact q
 | brk => exact q
 | cont => exact q
theorem Inv.quiet {pins : List (Addr × Obj)} {σ : St} {H : Hp} {s : Shared} (I : Inv X pins σ H s) : interactive X.env = false := by simp [interactive,I.ok.kind]
def A87 (te : TE) : TS := fun D σ H => te σ H fun _ H1 => D.nx σ H1
theorem Cc (he : PE X e te) (hs : swapsWith e none pos.line X.env = pure false := by rfl) : PS X (.Expr e pos) (A87 te) := by
 intro pins s σ H D I h
 exact wpAny_Expr_any (thn (he pins s σ H _ I h) fun v s1 ⟨x,H1,I1,r1,q1⟩ => ⟨σ,H1,I1,q1⟩) I.quiet hs
def tRet (te : TE) : TS := fun D σ H => te σ H D.rt
theorem Ap (he : PE X e te) : PS X (.Return (some e) pos) (tRet te) := by
 intro pins s σ H D I h
 exact wpAny_Return_some (thn (he pins s σ H _ I h) fun v s1 ⟨x,H1,I1,r1,q1⟩ => ⟨x,σ,H1,I1,r1,q1⟩)
def tIfS (c : TT) (t u : TS) : TS := fun D σ H => c σ H fun b H1 => if b = true then t D σ H1 else u D σ H1
theorem A6 {c : Expr} {a b : List Stmt} {tc : TT} (hc : PT X c tc) (ha : PSs X a t) (hb : PSs X b u) : PS X (.If c a b pos) (tIfS tc t u) := by
 intro pins s σ H D I h
 refine wpAny_If (thn (hc pins s σ H _ I h) fun d s1 ⟨H1,I1,q1⟩ => ?_)
 cases d with
 | true => exact ha pins s1 σ H1 D I1 q1
 | false => exact hb pins s1 σ H1 D I1 q1
def A18 : TS := fun _ _ _ => False
theorem Nh : PS X st A18 := fun _ _ _ _ _ _ h => h.elim
end
abbrev TG := V -> St -> Hp -> (St -> Hp -> Prop) -> Prop
abbrev TGs := List V -> St -> Hp -> (St -> Hp -> Prop) -> Prop
def PG (X : Cx) (target : Expr) (t : TG) : Prop :=
 ∀ (pins : List (Addr × Obj)) (s : Shared) (σ : St) (H : Hp) (v : V) (u : Value) (Q : St -> Hp -> Prop),Inv X pins σ H s -> RelV v u -> t v σ H Q →
   wpAny (model X.prog X.w) X.A (assign target X.env u) (fun _ s' => ∃ σ' H',Inv X pins σ' H' s' /\ Q σ' H') X.xe s
def PGs (X : Cx) (ts : List Expr) (t : TGs) : Prop :=
 ∀ (pins : List (Addr × Obj)) (s : Shared) (σ : St) (H : Hp) (vs : List V) (us : List Value) (Q : St -> Hp -> Prop),Inv X pins σ H s -> Vals vs us -> t vs σ H Q →
   wpAny (model X.prog X.w) X.A (assignInOrder ((assignEach ts X.env).map (·.2)) us) (fun _ s' => ∃ σ' H',Inv X pins σ' H' s' /\ Q σ' H') X.xe s
section
variable {X : Cx} {pos : Pos}
def j8 (i : Nat) : TG := fun v σ H Q => Q (σ.set i (some v)) H
theorem As {i : Nat} {x : Str} (hN : X.N.Nodup) (hi : X.N[i]? = some x) (hx : Loc X.env.scope x) (hf : X.fn x = true \/ X.env.scope.names.lookup x = some .local := by first | exact .inl rfl | exact .inr rfl | assumption) : PG X (.Name x pos) (j8 i) := by
 intro pins s σ H v u Q I r h
 exact wpAny_assign_Name (Y1 I hN hi hx r (fun s' I' => ⟨_,H,I',h⟩) hf)
def gNil : TGs := fun vs σ H Q => vs = [] /\ Q σ H
def Ba6 (t : TG) (u : TGs) : TGs := fun vs σ H Q => ∃ v r,vs = v :: r /\ t v σ H fun σ' H' => u r σ' H' Q
theorem Ef : PGs X [] gNil := by
 intro pins s σ H vs us Q I r h
 obtain ⟨e,h⟩ := h
 subst e
 cases r
 exact assignInOrder_nil ⟨σ,H,I,h⟩
theorem A8 {e : Expr} {es : List Expr} {t : TG} {u : TGs} (h1 : PG X e t) (h2 : PGs X es u)
 (hs : (assignEach (e :: es) X.env).map (·.2) = assign e X.env :: (assignEach es X.env).map (·.2) := by rfl) : PGs X (e :: es) (Ba6 t u) := by
 intro pins s σ H vs us Q I r h
 obtain ⟨v,vr,e1,h⟩ := h
 subst e1
 cases r with
 | cons r rr =>
   rw [hs]
   refine assignInOrder_cons (thn (h1 pins s σ H _ _ _ I r h) fun _ s1 ⟨σ1,H1,I1,q1⟩ => ?_)
   exact h2 pins s1 σ1 H1 _ _ Q I1 rr q1
def gTup (K : W.Frag) (n : Nat) (t : TGs) : TG := fun v σ H Q => ∃ a xs,v = .ref a /\ SqT K H a xs /\ xs.length = n /\ t xs σ H Q
theorem A36 {es : List Expr} {k : Nat} {t : TGs} {n : Nat} (hc : X.calm = true) (h : PGs X es t)
 (hn : (assignEach es X.env).length = n := by rfl) (hst : (assignEach es X.env).findIdx? (·.1) = none := by rfl) : PG X (.Tuple es k pos) (gTup X.K n t) := by
 intro pins s σ H v u Q I r hw
 obtain ⟨a,xs,e1,hq,hl,hw⟩ := hw
 subst e1
 cases r
 obtain ⟨its,rv,ht,hz⟩ := I.tuple hq
 refine assign_Tuple_tuple (I.ok.hd hc) ht (by simp [hn,← hl,rv.length]) hst fun h' hx => ?_
 have I1 : Inv X pins σ H { s with heap := h' } := I.kept (t' := s.toks) fun b o e => hx b o (Nat.ne_of_lt (Heap.lt_size e)) e
 exact h pins _ σ H xs _ Q I1 (by simpa using rv) hw
def tAsg (te : TE) (g : TG) : TS := fun D σ H => te σ H fun x H1 => g x σ H1 D.nx
theorem Aw {i : Nat} {x : Str} {e : Expr} {te : TE} {pos' : Pos} (hN : X.N.Nodup) (hi : X.N[i]? = some x) (hx : Loc X.env.scope x) (he : PE X e te) (hs : swapsWith e (some (.Name x pos')) pos.line X.env = pure false := by rfl) (hf : X.fn x = true \/ X.env.scope.names.lookup x = some .local := by first | exact .inl rfl | exact .inr rfl | assumption) :
 PS X (.Assign [.Name x pos'] e pos) (tAsg te (j8 i)) := by
 intro pins s σ H D I h
 refine wpAny_Assign_Name (thn (he pins s σ H _ I h) fun v s1 ⟨y,H1,I1,r1,q1⟩ => ?_) hs
 exact Y1 I1 hN hi hx r1 (fun s2 I2 => ⟨_,H1,I2,q1⟩) hf
end
section
variable {X : Cx} {pos : Pos}
def A17 (c : TT) (tb : TS) : TS := fun D σ H => ∃ W : Nat -> St -> Hp -> Prop,(∃ m,W m σ H) /\ ∀ m σ H,W m σ H →
 c σ H fun b H1 => if b = true then ∃ N : St -> Hp -> Prop,(∀ σ' H',N σ' H' -> ∃ m',m' < m /\ W m' σ' H') /\ tb { D with nx := N,ct := N,bk := D.nx } σ H1 else D.nx σ H1
theorem Y6 {c : Expr} {body : List Stmt} {tc : TT} {tb : TS} (hp : PassesOwn (model X.prog X.w) X.A X.env X.xe) (hc : PT X c tc) (hb : PSs X body tb) : PS X (.While c body [] pos) (A17 tc tb) := by
 intro pins s σ H D I h
 obtain ⟨W,⟨m0,w0⟩,turn⟩ := h
 refine wpAny_While (codeAny_whileLoop (fun n s' => ∃ σ' H',Inv X pins σ' H' s' /\ W n σ' H') ?_ m0 ⟨σ,H,I,w0⟩)
 rintro n s1 ⟨σ1,H1,I1,w1⟩
 refine wpAny_passesOwn hp (thn (hc pins s1 σ1 H1 _ I1 (turn n σ1 H1 w1)) fun b s2 ⟨H2,I2,q2⟩ => ?_)
 cases b with
 | true =>
   obtain ⟨N,hN,q2⟩ := q2
   rw [if_pos rfl]
   refine wpAny_passesOwn hp (thn (hb pins s2 σ1 H2 _ I2 q2) fun f s3 q3 => ?_)
   cases f with
   | next =>
     obtain ⟨σ3,H3,I3,n3⟩ := q3
     obtain ⟨m',hm,w3⟩ := hN σ3 H3 n3
     exact ⟨m',hm,σ3,H3,I3,w3⟩
   | cont =>
     obtain ⟨σ3,H3,I3,n3⟩ := q3
     obtain ⟨m',hm,w3⟩ := hN σ3 H3 n3
     exact ⟨m',hm,σ3,H3,I3,w3⟩
   | brk => exact q3
   | ret v => exact q3
 | false =>
   rw [if_neg Bool.false_ne_true]
   exact wpAny_execs_nil ⟨σ1,H2,I2,q2⟩
end
structure It where
 go : Nat -> Hp -> Prop
 yld : Nat -> Hp -> V -> Hp -> Prop
 stop : Nat -> Hp -> Prop
def FpOk (X : Cx) (pins : List (Addr × Obj)) (H : Hp) (b : Addr) : Prop :=
 H b = none /\ b ≠ X.env.locals /\ b ∉ X.fs /\ (b ∈ X.ex \/ X.s₀.heap.objs.size <= b) /\ (∀ x c,X.env.cells.lookup x = some c -> c ≠ b) /\ ∀ p ∈ X.pn ++ pins,p.1 ≠ b
theorem Inv.fpOk {X : Cx} {pins : List (Addr × Obj)} {σ : St} {H H' : Hp} {s : Shared} {b : Addr} (I : Inv X pins σ H s) (hb : s.heap.objs.size <= b) (hn : H' b = none) : FpOk X pins H' b := by
 refine ⟨hn,Nat.ne_of_gt (Nat.lt_of_lt_of_le I.lt hb),I.nofs hb,.inr (Nat.le_trans I.sz hb),fun x c e z => ?_,fun p hp z => ?_⟩
 . obtain ⟨v,q⟩ := I.cell x c e
   exact absurd (Nat.lt_of_lt_of_le q.lt (by rw [z]; exact hb)) (Nat.lt_irrefl _)
 . exact absurd (Nat.lt_of_lt_of_le (Heap.lt_size (I.pin p hp).1) (by rw [z]; exact hb)) (Nat.lt_irrefl _)
structure Turn (P : Program) (w : World) (K : W.Frag) (tg : Expr) (J : It) (fp : List Addr) (it : Addr) (tn : Nat -> Heap -> Prop) : Prop where
 mem : it ∈ fp
 obj : ∀ i h,tn i h -> ∀ b ∈ fp,∃ o,h.get? b = some o /\ ∀ v,o.data ≠ .cell v
 keep : ∀ i h h',tn i h -> (∀ b ∈ fp,∀ o,h.get? b = some o -> h'.get? b = some o) -> tn i h'
 item : ∀ (X : Cx),X.prog = P -> X.w = w -> X.K = K -> X.calm = true -> ∀ (i : Nat) (pins : List (Addr × Obj)) (s : Shared) (σ : St) (H : Hp) (E : Value -> Shared -> Prop),Inv X pins σ H s -> (∀ b ∈ fp,FpOk X pins H b) -> tn i s.heap -> J.go i H →
  wpAny (model P w) X.A (pyNext (.ref it)) (fun r s1 => ∃ u,r = some u ∧
   wpAny (model P w) X.A (letOwnedTupleGo tg (.ref it) u) (fun _ s2 => ∃ x H',Inv X pins σ H' s2 /\ RelV x u /\ J.yld i H x H' /\ tn (i + 1) s2.heap /\ ∀ b ∈ fp,H' b = none) E s1) E s
 done : ∀ (X : Cx),X.prog = P -> X.w = w -> X.K = K -> X.calm = true -> ∀ (i : Nat) (pins : List (Addr × Obj)) (s : Shared) (σ : St) (H : Hp) (E : Value -> Shared -> Prop),Inv X pins σ H s -> (∀ b ∈ fp,FpOk X pins H b) -> tn i s.heap -> J.stop i H →
  wpAny (model P w) X.A (pyNext (.ref it)) (fun r s1 => r = none /\ Inv X pins σ H s1) E s
 self : ∀ (A : Around) (i : Nat) (s : Shared) (Q : Value -> Shared -> Prop) (E : Value -> Shared -> Prop),tn i s.heap -> Q (.ref it) s -> wpAny (model P w) A (pyIter (.ref it)) Q E s
abbrev TI := St -> Hp -> (It -> Hp -> Prop) -> Prop
def PIE (X : Cx) (pins : List (Addr × Obj)) (σ : St) (tg : Expr) (R : It -> Hp -> Prop) (itv : Value) (s2 : Shared) : Prop :=
 ∃ (it : Addr) (fp : List Addr) (tn : Nat -> Heap -> Prop) (J : It) (H' : Hp),itv = .ref it /\ Inv X pins σ H' s2 /\ Turn X.prog X.w X.K tg J fp it tn /\ tn 0 s2.heap /\ (∀ b ∈ fp,FpOk X pins H' b) /\ R J H'
def PI (X : Cx) (tg iter : Expr) (wi : TI) : Prop :=
 ∀ (pins : List (Addr × Obj)) (s : Shared) (σ : St) (H : Hp) (R : It -> Hp -> Prop),Inv X pins σ H s -> wi σ H R →
   wpAny (model X.prog X.w) X.A (eval iter X.env) (fun v s1 => wpAny (model X.prog X.w) X.A (pyIter v) (PIE X pins σ tg R) X.xe s1) X.xe s
theorem Az6 {M : Model} {A : Around} {E : Value -> Shared -> Prop} {s : Shared} {tg : Expr} {it : Addr} {u : Value} {o : Obj} {n : String} {vs : Array Value} {Q : Unit -> Shared -> Prop} (ho : s.heap.get? it = some o) (hc : o.cls = .type n) (hd : o.data = .fields vs)
 (hn : ["enumerate","zip","dict_itemiterator","dict_reverseitemiterator","odict_iterator","itertools.zip_longest","itertools.pairwise"].contains n = false) (hQ : Q () s) : wpAny M A (letOwnedTupleGo tg (.ref it) u) Q E s := by
 unfold letOwnedTupleGo
 cases tg <;> first
  | exact wpAny_pure hQ
  | (cases u <;> first
      | exact wpAny_pure hQ
      | (refine wpAny_bind (wpAny_load ho ?_)
         rw [hc,hd]
         show wpAny M A (if (["enumerate","zip","dict_itemiterator","dict_reverseitemiterator","odict_iterator","itertools.zip_longest","itertools.pairwise"].contains n && vs[0]? == some (rawInt _)) = true then _ else _) Q E s
         rw [if_neg (by intro h; rw [hn,Bool.false_and] at h; cases h)]
         exact wpAny_pure hQ))
def Itl (K : W.Frag) (a : Addr) : It :=
 ⟨fun i H => ∃ xs x,SqL K H a xs /\ xs[i]? = some x,fun i H x H' => H' = H /\ ∀ xs,SqL K H a xs -> xs[i]? = some x,fun i H => ∃ xs,SqL K H a xs /\ xs.length <= i⟩
def Itt (K : W.Frag) (a : Addr) : It :=
 ⟨fun i H => ∃ xs x,SqT K H a xs /\ xs[i]? = some x,fun i H x H' => H' = H /\ ∀ xs,SqT K H a xs -> xs[i]? = some x,fun i H => ∃ xs,SqT K H a xs /\ xs.length <= i⟩
def Itr (lo : Int) (n : Nat) : It := ⟨fun i _ => i < n,fun i H x H' => H' = H /\ x = .int (lo + i),fun i _ => n <= i⟩
theorem v5 {P : Program} {w : World} {K : W.Frag} {tg : Expr} (a it : Addr) : Turn P w K tg (Itl K a) [it] it (fun i h => h.IsListIter it a i) where
 mem := by simp
 obj := fun i h st b hb => by
  have e : b = it := by simpa using hb
  subst e
  obtain ⟨o,e,c,d⟩ := st
  exact ⟨o,e,fun v z => by rw [d] at z; cases z⟩
 keep := fun i h h' st k => st.at fun o e => k it (by simp) o e
 item := by
  intro X hP hw hK hc i pins s σ H E I hf st hg
  subst hP hw hK
  obtain ⟨xs,x,hq,hx⟩ := hg
  obtain ⟨its,rv,p,hz⟩ := I.list hq
  obtain ⟨u,hu,ru⟩ := rv.get hx
  obtain ⟨f0,f1,f2,f3,f4,f5⟩ := hf it (by simp)
  refine wpAny_pyNext_list_item st p.isList (x := u) (by simpa using hu) fun h' st' sb => ?_
  have I1 : Inv X pins σ H { s with heap := h' } := I.turned (t' := s.toks) (fun b o hb e => (sb.2 b hb).trans e) f0 f1 f3 f4 f5
  obtain ⟨o,e,c,d⟩ := id st'
  exact ⟨u,rfl,Az6 (s := { s with heap := h' }) e c d (by decide) ⟨x,H,I1,ru,⟨rfl,fun ys hy => by rw [I.list_inj hy hq]; exact hx⟩,st',fun b hb => (hf b hb).1⟩⟩
 done := by
  intro X hP hw hK hc i pins s σ H E I hf st hg
  subst hP hw hK
  obtain ⟨xs,hq,hx⟩ := hg
  obtain ⟨its,rv,p,hz⟩ := I.list hq
  obtain ⟨f0,f1,f2,f3,f4,f5⟩ := hf it (by simp)
  have hl := rv.length
  exact wpAny_pyNext_list_end (I.ok.hd hc) st p.isList (by simp; omega) fun h' eb => ⟨rfl,I.turned (t' := s.toks) (fun b o hb e => eb b o hb e) f0 f1 f3 f4 f5⟩
 self := fun _ _ _ _ _ st h => wpAny_pyIter_listiter st h
theorem Zr {P : Program} {w : World} {K : W.Frag} {tg : Expr} (a it : Addr) : Turn P w K tg (Itt K a) [it] it (fun i h => h.IsTupleIter it a i) where
 mem := by simp
 obj := fun i h st b hb => by
  have e : b = it := by simpa using hb
  subst e
  obtain ⟨o,e,c,d⟩ := st
  exact ⟨o,e,fun v z => by rw [d] at z; cases z⟩
 keep := fun i h h' st k => st.at fun o e => k it (by simp) o e
 item := by
  intro X hP hw hK hc i pins s σ H E I hf st hg
  subst hP hw hK
  obtain ⟨xs,x,hq,hx⟩ := hg
  obtain ⟨its,rv,p,hz⟩ := I.tuple hq
  obtain ⟨u,hu,ru⟩ := rv.get hx
  obtain ⟨f0,f1,f2,f3,f4,f5⟩ := hf it (by simp)
  refine wpAny_pyNext_tuple_item st (show s.heap.IsTuple a its.toArray from p) (x := u) (by simpa using hu) fun h' st' sb => ?_
  have I1 : Inv X pins σ H { s with heap := h' } := I.turned (t' := s.toks) (fun b o hb e => (sb.2 b hb).trans e) f0 f1 f3 f4 f5
  obtain ⟨o,e,c,d⟩ := id st'
  exact ⟨u,rfl,Az6 (s := { s with heap := h' }) e c d (by decide) ⟨x,H,I1,ru,⟨rfl,fun ys hy => by rw [I.tuple_inj hy hq]; exact hx⟩,st',fun b hb => (hf b hb).1⟩⟩
 done := by
  intro X hP hw hK hc i pins s σ H E I hf st hg
  subst hP hw hK
  obtain ⟨xs,hq,hx⟩ := hg
  obtain ⟨its,rv,p,hz⟩ := I.tuple hq
  obtain ⟨f0,f1,f2,f3,f4,f5⟩ := hf it (by simp)
  have hl := rv.length
  exact wpAny_pyNext_tuple_end (I.ok.hd hc) st (show s.heap.IsTuple a its.toArray from p) (by simp; omega) fun h' eb => ⟨rfl,I.turned (t' := s.toks) (fun b o hb e => eb b o hb e) f0 f1 f3 f4 f5⟩
 self := fun _ _ _ _ _ st h => wpAny_pyIter_tupleiter st h
theorem Zs {P : Program} {w : World} {K : W.Frag} {tg : Expr} (it : Addr) (lo : Int) (n : Nat) : Turn P w K tg (Itr lo n) [it] it (fun i h => IsRangeIter h it (lo + (i : Nat) * 1) ((n : Int) - (i : Nat)) 1) where
 mem := by simp
 obj := fun i h st b hb => by
  have e : b = it := by simpa using hb
  subst e
  exact ⟨_,st,fun v z => by
   have z' : Data.fields _ = Data.cell v := z
   cases z'⟩
 keep := fun i h h' st k => k it (by simp) _ st
 item := by
  intro X hP hw hK hc i pins s σ H E I hf st hg
  subst hP hw hK
  obtain ⟨f0,f1,f2,f3,f4,f5⟩ := hf it (by simp)
  have W := Walks.range (prog := X.prog) (w := X.w) (I.ok.hd hc) it lo 1 n
  refine W.item i s _ _ hg st fun v h' tk hv st' kk => ?_
  obtain ⟨t,rfl⟩ := hv
  have I1 : Inv X pins σ H { s with heap := h',toks := tk } := I.turned (fun b o hb e => kk b o (by simpa using hb) e) f0 f1 f3 f4 f5
  refine ⟨_,rfl,Az6 (s := { s with heap := h',toks := tk }) (n := "range_iterator") st' rfl rfl (by decide) ⟨.int (lo + i),H,I1,⟨t,?_⟩,⟨rfl,rfl⟩,st',fun b hb => (hf b hb).1⟩⟩
  rw [Int.mul_one]
 done := by
  intro X hP hw hK hc i pins s σ H E I hf st hg
  subst hP hw hK
  obtain ⟨f0,f1,f2,f3,f4,f5⟩ := hf it (by simp)
  exact wpAny_pyNext_range_end (I.ok.hd hc) st (by have : n <= i := hg; omega) fun h' eb => ⟨rfl,I.turned (t' := s.toks) (fun b o hb e => eb b o hb e) f0 f1 f3 f4 f5⟩
 self := fun _ _ _ _ _ st h => wpAny_pyIter_rangeiter st h
end L2
namespace L2
open PySem PySem.Spec PyProof.Rows
section
variable {X : Cx} {tg : Expr}
def A70 (K : W.Frag) (tl : TE) : TI := fun σ H R => tl σ H fun x H1 => ∃ a,x = .ref a /\ (∃ xs,SqL K H1 a xs) /\ R (Itl K a) H1
def iTup (K : W.Frag) (tl : TE) : TI := fun σ H R => tl σ H fun x H1 => ∃ a,x = .ref a /\ (∃ xs,SqT K H1 a xs) /\ R (Itt K a) H1
theorem Aw6 {l : Expr} {tl : TE} (hl : PE X l tl) : PI X tg l (A70 X.K tl) := by
 intro pins s σ H R I h
 refine thn (hl pins s σ H _ I h) fun v s1 ⟨x,H1,I1,r1,q1⟩ => ?_
 obtain ⟨a,e,⟨xs,hq⟩,q⟩ := q1
 subst e
 cases r1
 obtain ⟨its,rv,p,hz⟩ := I1.list hq
 refine wpAny_pyIter_list p.isList ?_
 refine ⟨s1.heap.objs.size,[s1.heap.objs.size],_,_,H1,rfl,I1.kept (t' := s1.toks) fun b o e => Heap.get?_push_of_some _ e,v5 a _,⟨_,Heap.get?_push_size _ rfl,rfl,rfl⟩,fun b hb => ?_,q⟩
 have e : b = s1.heap.objs.size := by simpa using hb
 subst e
 exact I1.fpOk (Nat.le_refl _) (I1.hok.fresh (Nat.le_refl _))
theorem A35 {l : Expr} {tl : TE} (hl : PE X l tl) : PI X tg l (iTup X.K tl) := by
 intro pins s σ H R I h
 refine thn (hl pins s σ H _ I h) fun v s1 ⟨x,H1,I1,r1,q1⟩ => ?_
 obtain ⟨a,e,⟨xs,hq⟩,q⟩ := q1
 subst e
 cases r1
 obtain ⟨its,rv,p,hz⟩ := I1.tuple hq
 refine wpAny_pyIter_tuple (show s1.heap.IsTuple a its.toArray from p) ?_
 refine ⟨s1.heap.objs.size,[s1.heap.objs.size],_,_,H1,rfl,I1.kept (t' := s1.toks) fun b o e => Heap.get?_push_of_some _ e,Zr a _,⟨_,Heap.get?_push_size _ rfl,rfl,rfl⟩,fun b hb => ?_,q⟩
 have e : b = s1.heap.objs.size := by simpa using hb
 subst e
 exact I1.fpOk (Nat.le_refl _) (I1.hok.fresh (Nat.le_refl _))
theorem Y5 {pins : List (Addr × Obj)} {σ : St} {H : Hp} {s : Shared} {R : It -> Hp -> Prop} {E : Value -> Shared -> Prop} {lo hi : Int} {t u v : Tok} {tk : Nat} (I : Inv X pins σ H s) (h1 : -(2 ^ 62) <= lo) (h2 : lo < 2 ^ 62) (h3 : -(2 ^ 62) <= hi) (h4 : hi < 2 ^ 62)
 (q : R (Itr lo (hi - lo).toNat) H) : wpAny (model X.prog X.w) X.A (pyIter (.ref s.heap.objs.size)) (PIE X pins σ tg R) E { s with heap := s.heap.push { cls := .type "range",data := .fields #[.int lo t,.int hi u,.int 1 v] },toks := tk } := by
 refine wpAny_pyIter_range (IsRange.new ..) (small_one h1 h2 h3 h4) ?_
 have I1 : Inv X pins σ H { s with heap := s.heap.push { cls := .type "range",data := .fields #[.int lo t,.int hi u,.int 1 v] },toks := tk } := I.kept fun b o e => Heap.get?_push_of_some _ e
 refine ⟨(s.heap.push { cls := .type "range",data := .fields #[.int lo t,.int hi u,.int 1 v] }).objs.size,[(s.heap.push { cls := .type "range",data := .fields #[.int lo t,.int hi u,.int 1 v] }).objs.size],_,_,H,rfl,
  I1.kept (t' := tk) fun b o e => Heap.get?_push_of_some _ e,Zs _ lo (hi - lo).toNat,?_,fun b hb => ?_,q⟩
 . have e1 : lo + ((0 : Nat) : Int) * 1 = lo := by simp
   have e2 : (((hi - lo).toNat : Nat) : Int) - ((0 : Nat) : Int) = Builtin.Range.rangeSize lo hi 1 := by rw [rangeSize_one]; split <;> omega
   show IsRangeIter _ _ (lo + ((0 : Nat) : Int) * 1) ((((hi - lo).toNat : Nat) : Int) - ((0 : Nat) : Int)) 1
   rw [e1,e2]
   exact Heap.get?_push_size _ rfl
 . have e : b = (s.heap.push { cls := .type "range",data := .fields #[.int lo t,.int hi u,.int 1 v] }).objs.size := by simpa using hb
   subst e
   exact I1.fpOk (Nat.le_refl _) (I1.hok.fresh (Nat.le_refl _))
def Ba4 (ta : TA) : TI := fun σ H R => ta σ H fun vs H1 => ∃ j : Int,vs = [.int j] /\ -(2 ^ 62) <= j /\ j < 2 ^ 62 /\ R (Itr 0 j.toNat) H1
def Ba3 (ta : TA) : TI := fun σ H R => ta σ H fun vs H1 => ∃ i j : Int,vs = [.int i,.int j] /\ (-(2 ^ 62) <= i /\ i < 2 ^ 62 /\ -(2 ^ 62) <= j /\ j < 2 ^ 62) /\ R (Itr i (j - i).toNat) H1
theorem B3 {a : Expr} {ta : TA} {p pos : Pos} (hg : Gl X "range") (hm : X.mg "range" = none) (ha : PA X [a] ta) (hs : starEach [a] X.env = [(false,eval a X.env)] := by rfl) : PI X tg (.Call (.Name "range" p) [a] [] pos) (Ba4 ta) := by
 intro pins s σ H R I h
 refine Call_ (Jc I hg hm boot_range (PyProof.Rows.callWith_type1 (thn (ha pos pins s σ H _ I h) fun us s1 ⟨vs,H1,I1,r1,q1⟩ => ?_) hs rfl))
 obtain ⟨j,e,q1,q2,q⟩ := q1
 subst e
 cases r1 with
 | cons r rr =>
   cases rr
   obtain ⟨t,rfl⟩ := r
   exact call_range_1 (Y5 I1 (by omega) (by omega) q1 q2 (by simpa using q))
theorem Oc {a b : Expr} {ta : TA} {p pos : Pos} (hg : Gl X "range") (hm : X.mg "range" = none) (ha : PA X [a,b] ta) (hs : starEach [a,b] X.env = [(false,eval a X.env),(false,eval b X.env)] := by rfl) (hs2 : starEach [b] X.env = [(false,eval b X.env)] := by rfl) :
 PI X tg (.Call (.Name "range" p) [a,b] [] pos) (Ba3 ta) := by
 intro pins s σ H R I h
 refine Call_ (Jc I hg hm boot_range (PyProof.Rows.callWith_type1 (thn (ha pos pins s σ H _ I h) fun us s1 ⟨vs,H1,I1,r1,q1⟩ => ?_) (by rw [hs,hs2]) (by rw [hs2]; rfl)))
 obtain ⟨i,j,e,⟨q1,q2,q3,q4⟩,q⟩ := q1
 subst e
 cases r1 with
 | cons r rr =>
   cases rr with
   | cons r' rr =>
     cases rr
     obtain ⟨t,rfl⟩ := r
     obtain ⟨t',rfl⟩ := r'
     exact call_range_2 (Y5 I1 q1 q2 q3 q4 q)
def tFor (wi : TI) (g : TG) (tb : TS) : TS := fun D σ H => wi σ H fun J H1 => ∃ W : Nat -> Nat -> St -> Hp -> Prop,(∃ m,W 0 m σ H1) /\ ∀ i m σ H,W i m σ H →
 (J.stop i H /\ D.nx σ H) \/ (J.go i H /\ ∃ N : St -> Hp -> Prop,(∀ σ' H',N σ' H' -> ∃ m',m' < m /\ W (i + 1) m' σ' H') /\ ∀ x H',J.yld i H x H' -> g x σ H' fun σ2 H2 => tb { D with nx := N,ct := N,bk := D.nx } σ2 H2)
def Vc (fp : List Addr) (h : Heap) : List (Addr × Obj) := fp.filterMap fun b => (h.get? b).map fun o => (b,o)
theorem Ig {fp : List Addr} {h : Heap} {b : Addr} {o : Obj} (hb : b ∈ fp) (e : h.get? b = some o) : (b,o) ∈ Vc fp h := List.mem_filterMap.mpr ⟨b,hb,by rw [e]; rfl⟩
theorem Ad0 {fp : List Addr} {h : Heap} {p : Addr × Obj} (hp : p ∈ Vc fp h) : p.1 ∈ fp /\ h.get? p.1 = some p.2 := by
 obtain ⟨b,hb,e⟩ := List.mem_filterMap.mp hp
 cases q : h.get? b with
 | none => rw [q] at e; cases e
 | some o =>
   rw [q] at e
   have e' : (b,o) = p := Option.some.inj e
   subst e'
   exact ⟨hb,q⟩
theorem Inv.pinned {pins : List (Addr × Obj)} {σ : St} {H : Hp} {s : Shared} {fp : List Addr} (I : Inv X pins σ H s) (hf : ∀ b ∈ fp,FpOk X pins H b) (ho : ∀ b ∈ fp,∃ o,s.heap.get? b = some o /\ ∀ v,o.data ≠ .cell v) : Inv X (pins ++ Vc fp s.heap) σ H s :=
 I.pins_of fun p hp => (List.mem_append.mp hp).elim (fun z => I.pin p (List.mem_append_right _ z)) fun z => by
  obtain ⟨hb,e⟩ := Ad0 z
  obtain ⟨f0,f1,f2,_⟩ := hf p.1 hb
  obtain ⟨o,e',d⟩ := ho p.1 hb
  rw [e] at e'; cases e'
  exact ⟨e,f0,f1,f2,d⟩
theorem Inv.unpinned {pins pl : List (Addr × Obj)} {σ : St} {H : Hp} {s : Shared} (I : Inv X (pins ++ pl) σ H s) : Inv X pins σ H s := I.pins_of fun p hp => I.pin p (List.mem_append_right _ (List.mem_append_left _ hp))
theorem Cb {iter : Expr} {body : List Stmt} {wi : TI} {g : TG} {tb : TS} {pos : Pos} (hp : PassesOwn (model X.prog X.w) X.A X.env X.xe) (hc : X.calm = true) (hi : PI X tg iter wi) (hg : PG X tg g) (hb : PSs X body tb)
 (hs : ∀ x,foldedSetIterable iter X.env x = pure x := by intro _; rfl) : PS X (.For tg iter body [] pos) (tFor wi g tb) := by
 intro pins s σ H D I h
 refine wpAny_For (thn (hi pins s σ H _ I h) fun v s1 h1 => thn h1 fun itv s2 h2 => ?_) hs
 obtain ⟨it,fp,tn,J,H2,e,I2,T,st2,f2,W,⟨m0,w0⟩,turn⟩ := h2
 subst e
 have stat : ∀ {H' : Hp},(∀ b ∈ fp,H' b = none) -> ∀ b ∈ fp,FpOk X pins H' b := fun hn b hb => ⟨hn b hb,(f2 b hb).2⟩
 refine codeAny_forLoop_any (fun n s' => ∃ i σ' H',Inv X pins σ' H' s' /\ tn i s'.heap /\ (∀ b ∈ fp,H' b = none) /\ W i n σ' H') ?_ m0 ⟨0,σ,H2,I2,st2,fun b hb => (f2 b hb).1,w0⟩
 rintro n s3 ⟨i,σ3,H3,I3,st3,fr3,w3⟩
 rcases turn i n σ3 H3 w3 with ⟨stop,qn⟩ | ⟨go,N,hN,step⟩
 . refine wpAny_passesOwn hp (thn (T.done X rfl rfl rfl hc i pins s3 σ3 H3 X.xe I3 (stat fr3) st3 stop) fun r s4 ⟨hr,I4⟩ => ?_)
   subst hr
   exact wpAny_execs_nil ⟨σ3,H3,I4,qn⟩
 . refine wpAny_passesOwn hp (thn (T.item X rfl rfl rfl hc i pins s3 σ3 H3 X.xe I3 (stat fr3) st3 go) fun r s4 ⟨u,hr,h4⟩ => ?_)
   subst hr
   refine wpAny_passesOwn hp (thn h4 fun _ s5 ⟨x,H5,I5,r5,y5,st5,fr5⟩ => ?_)
   have I5' := I5.pinned (stat fr5) (T.obj _ _ st5)
   refine wpAny_passesOwn hp (thn (hg _ s5 σ3 H5 x u _ I5' r5 (step x H5 y5)) fun _ s6 ⟨σ6,H6,I6,q6⟩ => ?_)
   refine wpAny_passesOwn hp (thn (hb _ s6 σ6 H6 _ I6 q6) fun f s7 q7 => ?_)
   have again : ∀ {σ7 : St} {H7 : Hp},Inv X (pins ++ Vc fp s5.heap) σ7 H7 s7 -> N σ7 H7 -> ∃ m,m < n /\ ∃ i σ' H',Inv X pins σ' H' s7 /\ tn i s7.heap /\ (∀ b ∈ fp,H' b = none) /\ W i m σ' H' := fun {σ7 H7} I7 n7 => by
    obtain ⟨m',hm,w7⟩ := hN σ7 H7 n7
    refine ⟨m',hm,i + 1,σ7,H7,I7.unpinned,T.keep _ _ _ st5 fun b hb o e => (I7.pin (b,o) (List.mem_append_right _ (List.mem_append_right _ (Ig hb e)))).1,fun b hb => ?_,w7⟩
    obtain ⟨o,e,d⟩ := T.obj _ _ st5 b hb
    exact (I7.pin (b,o) (List.mem_append_right _ (List.mem_append_right _ (Ig hb e)))).2.1
   cases f with
   | next => obtain ⟨σ7,H7,I7,n7⟩ := q7; exact again I7 n7
   | cont => obtain ⟨σ7,H7,I7,n7⟩ := q7; exact again I7 n7
   | brk => obtain ⟨σ7,H7,I7,q7⟩ := q7; exact ⟨σ7,H7,I7.unpinned,q7⟩
   | ret v => obtain ⟨x7,σ7,H7,I7,r7,q7⟩ := q7; exact ⟨x7,σ7,H7,I7.unpinned,r7,q7⟩
end
theorem for_list {K : W.Frag} {a : Addr} {xs : List V} {g : TG} {tb : TS} {D : Ends} {σ : St} {H : Hp} (Pv : Nat -> St -> Hp -> Prop) (h0 : Pv 0 σ H) (hl : ∀ i σ H,i <= xs.length -> Pv i σ H -> SqL K H a xs)
 (hs : ∀ i x σ H,xs[i]? = some x -> Pv i σ H -> g x σ H fun σ2 H2 => tb { D with nx := Pv (i + 1),ct := Pv (i + 1),bk := D.nx } σ2 H2) (hd : ∀ σ H,Pv xs.length σ H -> D.nx σ H) :
 ∃ W : Nat -> Nat -> St -> Hp -> Prop,(∃ m,W 0 m σ H) /\ ∀ i m σ H,W i m σ H →
   ((Itl K a).stop i H /\ D.nx σ H) \/ ((Itl K a).go i H /\ ∃ N : St -> Hp -> Prop,(∀ σ' H',N σ' H' -> ∃ m',m' < m /\ W (i + 1) m' σ' H') /\ ∀ x H',(Itl K a).yld i H x H' -> g x σ H' fun σ2 H2 => tb { D with nx := N,ct := N,bk := D.nx } σ2 H2) := by
 refine ⟨fun i m σ H => m = xs.length - i /\ i <= xs.length /\ Pv i σ H,⟨xs.length,by simp,Nat.zero_le _,h0⟩,?_⟩
 rintro i m σ H ⟨rfl,hi,p⟩
 have q := hl i σ H hi p
 by_cases hlt : i < xs.length
 . refine .inr ⟨⟨xs,xs[i],q,by simp [hlt]⟩,Pv (i + 1),fun σ' H' p' => ⟨xs.length - (i + 1),by omega,rfl,hlt,p'⟩,fun x H' y => ?_⟩
   obtain ⟨e,y⟩ := y
   subst e
   exact hs i x σ _ (y xs q) p
 . have e : i = xs.length := by omega
   subst e
   exact .inl ⟨⟨xs,q,Nat.le_refl _⟩,hd σ H p⟩
theorem Ah8 {K : W.Frag} {a : Addr} {xs : List V} {g : TG} {tb : TS} {D : Ends} {σ : St} {H : Hp} (Pv : Nat -> St -> Hp -> Prop) (h0 : Pv 0 σ H) (hl : ∀ i σ H,i <= xs.length -> Pv i σ H -> SqT K H a xs)
 (hs : ∀ i x σ H,xs[i]? = some x -> Pv i σ H -> g x σ H fun σ2 H2 => tb { D with nx := Pv (i + 1),ct := Pv (i + 1),bk := D.nx } σ2 H2) (hd : ∀ σ H,Pv xs.length σ H -> D.nx σ H) :
 ∃ W : Nat -> Nat -> St -> Hp -> Prop,(∃ m,W 0 m σ H) /\ ∀ i m σ H,W i m σ H →
   ((Itt K a).stop i H /\ D.nx σ H) \/ ((Itt K a).go i H /\ ∃ N : St -> Hp -> Prop,(∀ σ' H',N σ' H' -> ∃ m',m' < m /\ W (i + 1) m' σ' H') /\ ∀ x H',(Itt K a).yld i H x H' -> g x σ H' fun σ2 H2 => tb { D with nx := N,ct := N,bk := D.nx } σ2 H2) := by
 refine ⟨fun i m σ H => m = xs.length - i /\ i <= xs.length /\ Pv i σ H,⟨xs.length,by simp,Nat.zero_le _,h0⟩,?_⟩
 rintro i m σ H ⟨rfl,hi,p⟩
 have q := hl i σ H hi p
 by_cases hlt : i < xs.length
 . refine .inr ⟨⟨xs,xs[i],q,by simp [hlt]⟩,Pv (i + 1),fun σ' H' p' => ⟨xs.length - (i + 1),by omega,rfl,hlt,p'⟩,fun x H' y => ?_⟩
   obtain ⟨e,y⟩ := y
   subst e
   exact hs i x σ _ (y xs q) p
 . have e : i = xs.length := by omega
   subst e
   exact .inl ⟨⟨xs,q,Nat.le_refl _⟩,hd σ H p⟩
theorem B4 {lo : Int} {n : Nat} {g : TG} {tb : TS} {D : Ends} {σ : St} {H : Hp} (Pv : Nat -> St -> Hp -> Prop) (h0 : Pv 0 σ H)
 (hs : ∀ i σ H,i < n -> Pv i σ H -> g (.int (lo + i)) σ H fun σ2 H2 => tb { D with nx := Pv (i + 1),ct := Pv (i + 1),bk := D.nx } σ2 H2) (hd : ∀ σ H,Pv n σ H -> D.nx σ H) :
 ∃ W : Nat -> Nat -> St -> Hp -> Prop,(∃ m,W 0 m σ H) /\ ∀ i m σ H,W i m σ H →
   ((Itr lo n).stop i H /\ D.nx σ H) \/ ((Itr lo n).go i H /\ ∃ N : St -> Hp -> Prop,(∀ σ' H',N σ' H' -> ∃ m',m' < m /\ W (i + 1) m' σ' H') /\ ∀ x H',(Itr lo n).yld i H x H' -> g x σ H' fun σ2 H2 => tb { D with nx := N,ct := N,bk := D.nx } σ2 H2) := by
 refine ⟨fun i m σ H => m = n - i /\ i <= n /\ Pv i σ H,⟨n,by simp,Nat.zero_le _,h0⟩,?_⟩
 rintro i m σ H ⟨rfl,hi,p⟩
 by_cases hlt : i < n
 . refine .inr ⟨hlt,Pv (i + 1),fun σ' H' p' => ⟨n - (i + 1),by omega,rfl,hlt,p'⟩,fun x H' y => ?_⟩
   obtain ⟨e,y⟩ := y
   subst e y
   exact hs i σ _ hlt p
 . have e : i = n := by omega
   subst e
   exact .inl ⟨Nat.le_refl _,hd σ H p⟩
end L2
namespace L2
open PySem PySem.Spec PyProof.Rows
abbrev R2 := V -> V -> Hp -> VK -> Prop
def OpR (X : Cx) (f : Value -> Value -> Sem Value) (r : R2) : Prop :=
 ∀ (pins : List (Addr × Obj)) (s : Shared) (σ : St) (H : Hp) (x y : V) (v u : Value) (Q : VK),Inv X pins σ H s -> RelV x v -> RelV y u -> r x y H Q →
   wpAny (model X.prog X.w) X.A (f v u) (EP X pins σ Q) X.xe s
def UnR (X : Cx) (f : Value -> Sem Value) (r : V -> Hp -> VK -> Prop) : Prop :=
 ∀ (pins : List (Addr × Obj)) (s : Shared) (σ : St) (H : Hp) (x : V) (v : Value) (Q : VK),Inv X pins σ H s -> RelV x v -> r x H Q →
   wpAny (model X.prog X.w) X.A (f v) (EP X pins σ Q) X.xe s
def Fp (X : Cx) (f : Value) (r : List V -> Hp -> VK -> Prop) : Prop :=
 ∀ (pins : List (Addr × Obj)) (s : Shared) (σ : St) (H : Hp) (xs : List V) (us : List Value) (Q : VK),Inv X pins σ H s -> Vals xs us -> r xs H Q →
   wpAny (model X.prog X.w) X.A (call f us) (EP X pins σ Q) X.xe s
def tOp (r : R2) (ta tb : TE) : TE := fun σ H Q => ta σ H fun x H1 => tb σ H1 fun y H2 => r x y H2 Q
def tUn (r : V -> Hp -> VK -> Prop) (ta : TE) : TE := fun σ H Q => ta σ H fun x H1 => r x H1 Q
def rI (C : Int -> Int -> Prop) (g : Int -> Int -> V) : R2 := fun x y H Q => ∃ i j,x = .int i /\ y = .int j /\ C i j /\ Q (g i j) H
def rI0 (g : Int -> Int -> V) : R2 := fun x y H Q => ∃ i j,x = .int i /\ y = .int j /\ Q (g i j) H
def rU (g : Int -> V) : V -> Hp -> VK -> Prop := fun x H Q => ∃ i,x = .int i /\ Q (g i) H
section
variable {X : Cx} {a b c : Expr} {ta tb tc : TE} {pos : Pos}
theorem binT (ha : PE X a ta) (hb : PE X b tb) {pins : List (Addr × Obj)} {s : Shared} {σ : St} {H : Hp} {R : V -> V -> Hp -> Prop} (I : Inv X pins σ H s)
 (h : ta σ H fun x H1 => tb σ H1 fun y H2 => R x y H2) {Q : Value -> Shared -> Prop} {f : Value -> Value -> Sem Value}
 (hf : ∀ v u s2 x y H2,Inv X pins σ H2 s2 -> RelV x v -> RelV y u -> R x y H2 -> wpAny (model X.prog X.w) X.A (f v u) Q X.xe s2) :
 wpAny (model X.prog X.w) X.A (eval a X.env) (fun v s₁ => wpAny (model X.prog X.w) X.A (eval b X.env) (fun u s₂ => wpAny (model X.prog X.w) X.A (f v u) Q X.xe s₂) X.xe s₁) X.xe s := by
 refine thn (ha pins s σ H _ I h) fun v s1 ⟨x,H1,I1,r1,q1⟩ => ?_
 refine thn (hb pins s1 σ H1 _ I1 q1) fun u s2 ⟨y,H2,I2,r2,q2⟩ => ?_
 exact hf v u s2 x y H2 I2 r1 r2 q2
theorem Ay {op : Operator} {r : R2} (ho : OpR X (binaryOp op) r) (ha : PE X a ta) (hb : PE X b tb) : PE X (.BinOp a op b pos) (tOp r ta tb) := by
 intro pins s σ H Q I h
 exact wpAny_BinOp (binT ha hb I h fun v u s2 x y H2 I2 rx ry q => ho pins s2 σ H2 x y v u Q I2 rx ry q)
theorem Xq {op : UnaryOp} {r : V -> Hp -> VK -> Prop} (ho : UnR X (unaryOp op) r) (ha : PE X a ta) : PE X (.UnaryOp op a pos) (tUn r ta) := by
 intro pins s σ H Q I h
 exact UnaryOp_ (thn (ha pins s σ H _ I h) fun v s1 ⟨x,H1,I1,r1,q1⟩ => ho pins s1 σ H1 x v Q I1 r1 q1)
theorem opI {f : Value -> Value -> Sem Value} {C : Int -> Int -> Prop} {g : Int -> Int -> Int}
 (rule : ∀ (i j : Int) (t u : Tok) (s : Shared) (Q : Value -> Shared -> Prop) (E : Value -> Shared -> Prop),C i j -> Q (.int (g i j) s.toks) { s with toks := s.toks + 1 } -> wpAny (model X.prog X.w) X.A (f (.int i t) (.int j u)) Q E s) :
 OpR X f (rI C fun i j => .int (g i j)) := by
 intro pins s σ H x y v u Q I rx ry h
 obtain ⟨i,j,rfl,rfl,hc,q⟩ := h
 obtain ⟨t,rfl⟩ := rx
 obtain ⟨t',rfl⟩ := ry
 exact rule i j t t' s _ _ hc ⟨.int (g i j),H,I.tok _,⟨_,rfl⟩,q⟩
theorem opI0 {f : Value -> Value -> Sem Value} {g : Int -> Int -> Int}
 (rule : ∀ (i j : Int) (t u : Tok) (s : Shared) (Q : Value -> Shared -> Prop) (E : Value -> Shared -> Prop),Q (.int (g i j) s.toks) { s with toks := s.toks + 1 } -> wpAny (model X.prog X.w) X.A (f (.int i t) (.int j u)) Q E s) :
 OpR X f (rI0 fun i j => .int (g i j)) := by
 intro pins s σ H x y v u Q I rx ry h
 obtain ⟨i,j,rfl,rfl,q⟩ := h
 obtain ⟨t,rfl⟩ := rx
 obtain ⟨t',rfl⟩ := ry
 exact rule i j t t' s _ _ ⟨.int (g i j),H,I.tok _,⟨_,rfl⟩,q⟩
theorem opB0 {f : Value -> Value -> Sem Value} {g : Int -> Int -> Bool}
 (rule : ∀ (i j : Int) (t u : Tok) (s : Shared) (Q : Value -> Shared -> Prop) (E : Value -> Shared -> Prop),Q (.bool (g i j)) s -> wpAny (model X.prog X.w) X.A (f (.int i t) (.int j u)) Q E s) :
 OpR X f (rI0 fun i j => .bl (g i j)) := by
 intro pins s σ H x y v u Q I rx ry h
 obtain ⟨i,j,rfl,rfl,q⟩ := h
 obtain ⟨t,rfl⟩ := rx
 obtain ⟨t',rfl⟩ := ry
 exact rule i j t t' s _ _ ⟨.bl (g i j),H,I,rfl,q⟩
def CDiv (i j : Int) : Prop := 0 < j /\ j < 1073741824
def CMul (i j : Int) : Prop := (-(2 ^ 64) < i /\ i < 2 ^ 64) \/ (-(2 ^ 64) < j /\ j < 2 ^ 64)
theorem CMul.ok {i j : Int} (h : CMul i j) : IntMulOk i j := by
 rcases h with ⟨h1,h2⟩ | ⟨h1,h2⟩
 . exact .of_left (intBits_le_64 h1 h2)
 . exact .of_right (intBits_le_64 h1 h2)
theorem Es : OpR X (binaryOp .Add) (rI0 fun i j => .int (i + j)) := opI0 fun _ _ _ _ _ _ _ q => add_int q
theorem Kk : OpR X (binaryOp .Sub) (rI0 fun i j => .int (i - j)) := opI0 fun _ _ _ _ _ _ _ q => sub_int q
theorem F2 : OpR X (binaryOp .FloorDiv) (rI CDiv fun i j => .int (i / j)) := opI fun i j _ _ _ _ _ hc q => by
 have h1 : (0 : Int) < j := hc.1
 have h2 : j < 1073741824 := hc.2
 exact floordiv_int (by omega) (by rw [Int.fdiv_eq_ediv_of_nonneg i (by omega)]; exact q) (.inl (PyProof.noPylong_small (by omega)))
theorem Bm : OpR X (binaryOp .Mod) (rI (fun _ j => 0 < j) fun i j => .int (i % j)) := opI fun i j _ _ _ _ _ hc q => by
 have h1 : (0 : Int) < j := hc
 exact mod_int' (by omega) (by rw [Int.fmod_eq_emod_of_nonneg i (by omega)]; exact q)
theorem unI {f : Value -> Sem Value} {g : Int -> Int}
 (rule : ∀ (i : Int) (t : Tok) (s : Shared) (Q : Value -> Shared -> Prop) (E : Value -> Shared -> Prop),Q (.int (g i) s.toks) { s with toks := s.toks + 1 } -> wpAny (model X.prog X.w) X.A (f (.int i t)) Q E s) :
 UnR X f (rU fun i => .int (g i)) := by
 intro pins s σ H x v Q I rx h
 obtain ⟨i,rfl,q⟩ := h
 obtain ⟨t,rfl⟩ := rx
 exact rule i t s _ _ ⟨.int (g i),H,I.tok _,⟨_,rfl⟩,q⟩
theorem Nn : UnR X (unaryOp .USub) (rU fun i => .int (-i)) := unI fun _ _ _ _ _ q => neg_int q
end
def scal : V -> V -> Bool
 | .non,.non => true | .non,.int _ => true | .int _,.non => true | .non,.bl _ => true | .bl _,.non => true | .non,.str _ => true | .str _,.non => true
 | .int _,.int _ => true | .bl _,.bl _ => true | .str _,.str _ => true | .byt _,.byt _ => true
 | .int _,.str _ => true | .str _,.int _ => true | .bl _,.str _ => true | .str _,.bl _ => true
 | _,_ => false
def rEq : R2 := fun x y H Q => scal x y = true /\ Q (.bl (decide (x = y))) H
def rNe : R2 := fun x y H Q => scal x y = true /\ Q (.bl (!decide (x = y))) H
theorem Ai9 {i j : Int} : decide (V.int i = V.int j) = (i == j) := by
 rw [Bool.eq_iff_iff]
 simp
theorem Au1 {i j : Bool} : decide (V.bl i = V.bl j) = (i == j) := by
 rw [Bool.eq_iff_iff]
 simp
theorem Ai8 {i j : Str} : decide (V.str i = V.str j) = (i == j) := by
 rw [Bool.eq_iff_iff]
 simp
theorem Aj0 {i j : Array UInt8} : decide (V.byt i = V.byt j) = (i.toList == j.toList) := by
 rw [Bool.eq_iff_iff]
 cases i
 cases j
 simp
section
variable {X : Cx} {a b c : Expr} {ta tb tc : TE} {pos : Pos}
theorem Bg {pins : List (Addr × Obj)} {σ : St} {H : Hp} {s : Shared} {Q : VK} {k k' : Bool} (I : Inv X pins σ H s) (q : Q (.bl k) H) (e : k = k') : EP X pins σ Q (.bool k') s := by
 subst e
 exact ⟨.bl k,H,I,rfl,q⟩
theorem Db : OpR X (compareOp .Eq) rEq := by
 intro pins s σ H x y v u Q I rx ry h
 obtain ⟨hs,q⟩ := h
 cases x with
 | non =>
   cases rx
   cases y with
   | non => cases ry; exact PySem.EqNone.eq_none_none (Bg I q (by simp))
   | bl j => cases ry; exact PySem.EqNone.eq_none_bool (Bg I q (by simp))
   | int j => obtain ⟨t',rfl⟩ := ry; exact PySem.EqNone.eq_none_int (Bg I q (by simp))
   | str j => obtain ⟨t',rfl⟩ := ry; exact PySem.EqNone.eq_none_str (Bg I q (by simp))
   | _ => exact absurd (show false = true from hs) Bool.false_ne_true
 | bl i =>
   cases rx
   cases y with
   | non => cases ry; exact PySem.EqNone.eq_bool_none (Bg I q (by simp))
   | bl j => cases ry; exact eq_bool (Bg I q Au1)
   | str j => obtain ⟨t',rfl⟩ := ry; exact PySem.EqMixed.eq_bool_str (Bg I q (by simp))
   | _ => exact absurd (show false = true from hs) Bool.false_ne_true
 | int i =>
   obtain ⟨t,rfl⟩ := rx
   cases y with
   | non => cases ry; exact PySem.EqNone.eq_int_none (Bg I q (by simp))
   | int j => obtain ⟨t',rfl⟩ := ry; exact eq_int (Bg I q Ai9)
   | str j => obtain ⟨t',rfl⟩ := ry; exact PySem.EqMixed.eq_int_str (Bg I q (by simp))
   | _ => exact absurd (show false = true from hs) Bool.false_ne_true
 | str i =>
   obtain ⟨t,rfl⟩ := rx
   cases y with
   | non => cases ry; exact PySem.EqNone.eq_str_none (Bg I q (by simp))
   | bl j => cases ry; exact PySem.EqMixed.eq_str_bool (Bg I q (by simp))
   | int j => obtain ⟨t',rfl⟩ := ry; exact PySem.EqMixed.eq_str_int (Bg I q (by simp))
   | str j => obtain ⟨t',rfl⟩ := ry; exact eq_str (Bg I q Ai8)
   | _ => exact absurd (show false = true from hs) Bool.false_ne_true
 | byt i =>
   obtain ⟨t,rfl⟩ := rx
   cases y with
   | byt j => obtain ⟨t',rfl⟩ := ry; exact PySem.W.eq_bytes (Bg I q Aj0)
   | _ => exact absurd (show false = true from hs) Bool.false_ne_true
 | _ => cases y <;> exact absurd (show false = true from hs) Bool.false_ne_true
theorem Oe : OpR X (compareOp .NotEq) rNe := by
 intro pins s σ H x y v u Q I rx ry h
 obtain ⟨hs,q⟩ := h
 cases x with
 | non =>
   cases rx
   cases y with
   | non => cases ry; exact PySem.EqNone.ne_none_none (Bg I q (by simp))
   | bl j => cases ry; exact PySem.EqNone.ne_none_bool (Bg I q (by simp))
   | int j => obtain ⟨t',rfl⟩ := ry; exact PySem.EqNone.ne_none_int (Bg I q (by simp))
   | str j => obtain ⟨t',rfl⟩ := ry; exact PySem.EqNone.ne_none_str (Bg I q (by simp))
   | _ => exact absurd (show false = true from hs) Bool.false_ne_true
 | bl i =>
   cases rx
   cases y with
   | non => cases ry; exact PySem.EqNone.ne_bool_none (Bg I q (by simp))
   | bl j => cases ry; exact ne_bool (Bg I q (congrArg not Au1))
   | str j => obtain ⟨t',rfl⟩ := ry; exact PySem.EqMixed.ne_bool_str (Bg I q (by simp))
   | _ => exact absurd (show false = true from hs) Bool.false_ne_true
 | int i =>
   obtain ⟨t,rfl⟩ := rx
   cases y with
   | non => cases ry; exact PySem.EqNone.ne_int_none (Bg I q (by simp))
   | int j => obtain ⟨t',rfl⟩ := ry; exact ne_int (Bg I q (congrArg not Ai9))
   | str j => obtain ⟨t',rfl⟩ := ry; exact PySem.EqMixed.ne_int_str (Bg I q (by simp))
   | _ => exact absurd (show false = true from hs) Bool.false_ne_true
 | str i =>
   obtain ⟨t,rfl⟩ := rx
   cases y with
   | non => cases ry; exact PySem.EqNone.ne_str_none (Bg I q (by simp))
   | bl j => cases ry; exact PySem.EqMixed.ne_str_bool (Bg I q (by simp))
   | int j => obtain ⟨t',rfl⟩ := ry; exact PySem.EqMixed.ne_str_int (Bg I q (by simp))
   | str j => obtain ⟨t',rfl⟩ := ry; exact ne_str (Bg I q (congrArg not Ai8))
   | _ => exact absurd (show false = true from hs) Bool.false_ne_true
 | byt i =>
   obtain ⟨t,rfl⟩ := rx
   cases y with
   | byt j => obtain ⟨t',rfl⟩ := ry; exact PySem.W.ne_bytes (Bg I q (congrArg not Aj0))
   | _ => exact absurd (show false = true from hs) Bool.false_ne_true
 | _ => cases y <;> exact absurd (show false = true from hs) Bool.false_ne_true
theorem Ls : OpR X (compareOp .Lt) (rI0 fun i j => .bl (decide (i < j))) := opB0 fun _ _ _ _ _ _ _ q => lt_int q
theorem A41 : OpR X (compareOp .LtE) (rI0 fun i j => .bl (decide (i <= j))) := opB0 fun _ _ _ _ _ _ _ q => le_int q
theorem Ac2 : OpR X (compareOp .Gt) (rI0 fun i j => .bl (decide (j < i))) := opB0 fun _ _ _ _ _ _ _ q => gt_int q
theorem A43 : OpR X (compareOp .GtE) (rI0 fun i j => .bl (decide (j <= i))) := opB0 fun _ _ _ _ _ _ _ q => ge_int q
theorem A42 : OpR X (compareOp .Is) (fun x y H Q => y = .non /\ Q (.bl (decide (x = .non))) H) := by
 intro pins s σ H x y v u Q I rx ry h
 obtain ⟨rfl,q⟩ := h
 cases ry
 refine is_none_gen (Bg I q ?_)
 cases x <;> first
  | (cases rx; rfl)
  | (obtain ⟨t,rfl⟩ := rx; rfl)
theorem Xs : OpR X (compareOp .IsNot) (fun x y H Q => y = .non /\ Q (.bl (!decide (x = .non))) H) := by
 intro pins s σ H x y v u Q I rx ry h
 obtain ⟨rfl,q⟩ := h
 cases ry
 refine isnot_none_gen (Bg I q ?_)
 cases x <;> first
  | (cases rx; rfl)
  | (obtain ⟨t,rfl⟩ := rx; rfl)
theorem Au (b : Expr) {op : CmpOp} (h : op ≠ .In := by decide) (h2 : op ≠ .NotIn := by decide) : behindInMarks op b = false := by
 have e1 : (op == CmpOp.In) = false := by cases op <;> first | rfl | exact absurd rfl h
 have e2 : (op == CmpOp.NotIn) = false := by cases op <;> first | rfl | exact absurd rfl h2
 cases b <;> simp [behindInMarks,e1,e2]
theorem Od {op : CmpOp} {r : R2} (ho : OpR X (compareOp op) r) (ha : PE X a ta) (hb : PE X b tb) (hm : behindInMarks op b = false) : PE X (.Compare a [op] [b] pos) (tOp r ta tb) := by
 intro pins s σ H Q I h
 exact wpAny_Compare1 (binT ha hb I h fun v u s2 x y H2 I2 rx ry q => ho pins s2 σ H2 x y v u Q I2 rx ry q) hm
def A83 (t : TE) : TT := fun σ H Q => t σ H fun x H' => ∃ k,x = .bl k /\ Q k H'
theorem Am {op : CmpOp} {r : R2} (ho : OpR X (compareOp op) r) (ha : PE X a ta) (hb : PE X b tb) (hm : behindInMarks op b = false) : PT X (.Compare a [op] [b] pos) (A83 (tOp r ta tb)) := by
 intro pins s σ H Q I h
 refine wpAny_isTrue_Compare1 (thn (ha pins s σ H _ I h) fun v s1 ⟨x,H1,I1,r1,q1⟩ => thn (hb pins s1 σ H1 _ I1 q1) fun u s2 ⟨y,H2,I2,r2,q2⟩ =>
  thn (ho pins s2 σ H2 x y v u _ I2 r1 r2 q2) fun c s3 ⟨z,H3,I3,r3,k,e,q3⟩ => ?_) hm
 subst e
 cases r3
 exact wpAny_truthy_bool ⟨H3,I3,q3⟩
def A23 (r r' : R2) (ta tb tc : TE) : TE := fun σ H Q => ta σ H fun x H1 => tb σ H1 fun y H2 => r x y H2 fun z H3 => ∃ k,z = .bl k ∧
 (if k = true then tc σ H3 fun w' H4 => r' y w' H4 Q else Q (.bl false) H3)
theorem Ap0 {op op' : CmpOp} {r r' : R2} (ho : OpR X (compareOp op) r) (ho' : OpR X (compareOp op') r') (ha : PE X a ta) (hb : PE X b tb) (hc : PE X c tc)
 (hm : lastMarks [op,op'] [b,c] = false := by with_unfolding_all rfl) : PE X (.Compare a [op,op'] [b,c] pos) (A23 r r' ta tb tc) := by
 intro pins s σ H Q I h
 refine Compare_chain (thn (ha pins s σ H _ I h) fun v s1 ⟨x,H1,I1,r1,q1⟩ => chain_link (thn (hb pins s1 σ H1 _ I1 q1) fun u s2 ⟨y,H2,I2,r2,q2⟩ =>
  thn (ho pins s2 σ H2 x y v u _ I2 r1 r2 q2) fun d s3 ⟨z,H3,I3,r3,k,e,q3⟩ => ?_)) hm
 subst e
 cases r3
 refine wpAny_truthy_bool ?_
 cases k with
 | false => exact ite_ff ⟨.bl false,H3,I3,rfl,q3⟩
 | true => exact ite_tt (chain_last (thn (hc pins s3 σ H3 _ I3 q3) fun w' s4 ⟨z',H4,I4,r4,q4⟩ => ho' pins s4 σ H4 y z' u w' Q I4 r2 r4 q4))
theorem Af7 : (sizeLine : Nat) < 2 ^ 63 := by rw [sizeLine_eq]; decide
theorem So {x : V} {us : List Value} (r : Vals [x] us) : ∃ u,us = [u] /\ RelV x u := by
 cases r with
 | cons r1 r2 => cases r2; exact ⟨_,rfl,r1⟩
theorem u8 {x y : V} {us : List Value} (r : Vals [x,y] us) : ∃ u w',us = [u,w'] /\ RelV x u /\ RelV y w' := by
 cases r with
 | cons r1 r2 =>
   cases r2 with
   | cons r3 r4 => cases r4; exact ⟨_,_,rfl,r1,r3⟩
theorem Wn (hc : X.calm = true) : Fp X (.builtin "max") (fun xs H Q => ∃ i j,xs = [.int i,.int j] /\ Q (.int (if j > i then j else i)) H) := by
 intro pins s σ H xs us Q I r h
 obtain ⟨i,j,rfl,q⟩ := h
 obtain ⟨u,w',rfl,⟨t,rfl⟩,⟨t',rfl⟩⟩ := u8 r
 refine max_two_ints (I.ok.hd hc) fun h' tk k => ⟨_,H,I.kept k,?_,q⟩
 by_cases hj : j > i
 . rw [if_pos hj,if_pos hj]; exact ⟨_,rfl⟩
 . rw [if_neg hj,if_neg hj]; exact ⟨_,rfl⟩
end
end L2
namespace L2
open PySem PySem.Spec PyProof.Rows
structure ObjM (h : Heap) (x dx C : Addr) (mA : Str -> Option Value) : Prop where
 obj : h.get? x = some (PySem.W.instObj C dx)
 ns : h.Ns1 dx mA
 ne : dx ≠ x
theorem Af5 {h : Heap} {dx : Addr} {mA : Str -> Option Value} (n : h.Ns1 dx mA) : ∃ od,h.get? dx = some od /\ ∀ name,PySem.W.lookIn name od = some (mA name) := by
 obtain ⟨o,es,ep,ho,hd,hk,_,hm⟩ := n
 refine ⟨o,ho,fun name => ?_⟩
 have e := hm name
 unfold nsFind findBy at e
 rw [← Array.find?_toList] at e
 unfold PySem.W.lookIn
 rw [hd]
 dsimp only
 split
 . rename_i y q
   rw [q] at e
   exact congrArg some e
 . rename_i q
   rw [q] at e
   have a : es.toList.any (·.refKey) = false := by
    rw [List.any_eq_false]
    intro y hy
    obtain ⟨z,t,hkey⟩ := hk y (Array.mem_toList_iff.mp hy)
    simp [DictEntry.refKey,hkey]
   have a' : ¬ es.toList.any (·.refKey) = true := by rw [a]; exact Bool.false_ne_true
   rw [if_neg a']
   exact congrArg some e
theorem ObjM.look {h : Heap} {x dx C : Addr} {mA : Str -> Option Value} (I : ObjM h x dx C mA) : ∃ od,PySem.W.InstAt h x (PySem.W.instObj C dx) C (some od) /\ ∀ name,PySem.W.lookIn name od = some (mA name) :=
 let ⟨od,ho,hl⟩ := Af5 I.ns
 ⟨od,⟨I.obj,rfl,rfl,ho⟩,hl⟩
section
variable {prog : Program} {w : World} {A : Around} {E : Value -> Shared -> Prop} {s : Shared} {K : W.Frag} {x dx C f : Addr} {mA : Str -> Option Value} {name : Str} {v : Value}
theorem Az7 {expr : Bool} {Q : Value -> Shared -> Prop} (X : K.In s.heap) (I : ObjM s.heap x dx C mA) (hg : PySem.W.plainGet K C name = true) (hh : PySem.W.hasDictIn K C = true)
 (ha : PySem.W.findIn K (.ref C) name = some none) (hv : mA name = some v) (hv' : PySem.W.handedIn v = true) (h : Q v { s with toks := s.toks + 1 }) :
 wpAny (model prog w) A (getAttr (.ref x) name expr) Q E s := by
 obtain ⟨od,J,hl⟩ := I.look
 exact PySem.W.get_value X J (PySem.W.plainGet_of hg).1 (PySem.W.findObj_own hh ha rfl (by rw [hl,hv])) hv' h
theorem Ar2 {pl : Sem Bool} {Q : Value × List Value -> Shared -> Prop} (X : K.In s.heap) (I : ObjM s.heap x dx C mA) (hg : PySem.W.plainGet K C name = true)
 (hf : PySem.W.findIn K (.ref C) name = some (some (.ref f))) (ht : PySem.W.isFn K (.ref f) = true) (hv : mA name = none) (h : Q (.ref f,[.ref x]) s) :
 wpAny (model prog w) A (getMethod (.ref x) name pl) Q E s := by
 obtain ⟨od,J,hl⟩ := I.look
 exact PySem.W.method_fn X J (PySem.W.plainGet_of hg).1 (PySem.W.plainGet_of hg).2 hf (beq_iff_eq.mp ht) (by show (PySem.W.lookIn name od).map (·.isSome) = some false; rw [hl,hv]; rfl) h
theorem Av6 {ns : List Str} {Q : Unit -> Shared -> Prop} (X : K.In s.heap) (I : ObjM s.heap x dx C mA)
 (hs : PySem.W.findIn K (.ref C) "__setattr__" = some (some (.builtin "object.__setattr__"))) (hp : PySem.W.plainOver K C = true) (ht : PySem.W.takerIn K C name = some none) (hh : PySem.W.hasDictIn K C = true)
 (hw : PySem.Within mA ns) (hsz : ns.length <= sizeLine)
 (h : ∀ h',ObjM h' x dx C (fun y => if y = name then some v else mA y) -> Heap.SameBut dx s.heap h' -> Q () { s with heap := h',toks := s.toks + 2 }) :
 wpAny (model prog w) A (setAttr (.ref x) name v) Q E s := by
 obtain ⟨od,J,hl⟩ := I.look
 refine PySem.W.set_plain X J hs (PySem.W.osa_open (s := { s with toks := s.toks + 1 }) (r := none) X J hp ht fun b => ?_)
 obtain ⟨cd,hc,hd'⟩ := PySem.W.any_some hh
 have hx : s.heap.get? x = some ⟨.ref C,some dx,.plain,#[]⟩ := I.obj
 refine wpAny_bind (wpAny_pure (wpAny_bind (wpAny_bind (wpAny_loadPart hx (wpAny_bind (PySem.W.Looks.here (s := { s with toks := s.toks + 1 }) (PySem.W.looks_clsIn X hc) ?_))))))
 rw [hd']
 refine wpAny_pure (a := some dx) (wpAny_bind (wpAny_pure (wpAny_bind ?_)))
 refine wpAny_nsSet1 (s := { s with toks := s.toks + 1 }) I.ns fun h' hn2 hs2 => ?_
 obtain ⟨oD,esD,epD,hoD,hdD,hcD⟩ := hn2.count (PySem.Within.cons name v hw)
 refine wpAny_bind (wpAny_lookBehind hoD (by rw [hdD]; exact pastItsLine_dict (Nat.le_trans hcD (by rw [List.length_cons]; omega))) ?_)
 exact wpAny_pure (h _ ⟨(hs2.2 _ (Ne.symm I.ne)).trans I.obj,hn2,I.ne⟩ hs2)
theorem Aq4 {R : Result -> Shared -> Prop} {vs : List Value} {kw : List (Str × Value)} (X : K.In s.heap) (hm : PySem.W.makesIn K C = true)
 (hi : PySem.W.findIn K (.ref C) "__init__" = some (some (.ref f))) (hf : PySem.W.typeIn K (.ref f) = some (.type "function"))
 (h : codeAny (model prog w) (A.under (.builtin "type.__call__" ⟨.ref C :: vs,kw⟩)) (.call (.ref f) ⟨.ref (s.heap.objs.size + 1) :: vs,kw⟩) (PySem.W.InitBack (s.heap.objs.size + 1) R)
   { s with heap := (s.heap.push PySem.W.emptyDict).push (PySem.W.instObj C s.heap.objs.size) }) :
 codeAny (model prog w) A (.call (.ref C) ⟨vs,kw⟩) R s := by
 obtain ⟨hh,g,d,t,os⟩ := s
 exact PySem.W.make_core (PySem.W.makes_of X hm) (PySem.W.looks_findIn X hi) (fun self => PySem.W.bind_fn X self hf) (.inl rfl) h
end
def putF (f : Str) (v : V) : List (Str × V) -> List (Str × V)
 | [] => [(f,v)]
 | (g,x) :: r => if g = f then (g,v) :: r else (g,x) :: putF f v r
theorem F5 (f g : Str) (v : V) : ∀ fs : List (Str × V),(putF f v fs).lookup g = if g = f then some v else fs.lookup g
 | [] => by
   show List.lookup g [(f,v)] = _
   by_cases h : g = f
   . have hb : (g == f) = true := beq_iff_eq.mpr h
     simp only [List.lookup,hb,if_pos h]
   . have hb : (g == f) = false := beq_eq_false_iff_ne.mpr h
     simp only [List.lookup,hb,if_neg h]
 | (k,x) :: r => by
   have ih := F5 f g v r
   rw [show putF f v ((k,x) :: r) = (if k = f then (k,v) :: r else (k,x) :: putF f v r) from rfl]
   by_cases hk : k = f
   . rw [if_pos hk]
     by_cases h : g = k
     . have hb : (g == k) = true := beq_iff_eq.mpr h
       simp only [List.lookup,hb,if_pos (h.trans hk)]
     . have hb : (g == k) = false := beq_eq_false_iff_ne.mpr h
       simp only [List.lookup,hb,if_neg (fun e : g = f => h (e.trans hk.symm))]
   . rw [if_neg hk]
     by_cases h : g = k
     . have hb : (g == k) = true := beq_iff_eq.mpr h
       simp only [List.lookup,hb,if_neg (fun e : g = f => hk (h.symm.trans e))]
     . have hb : (g == k) = false := beq_eq_false_iff_ne.mpr h
       simp only [List.lookup,hb]
       exact ih
theorem Ot (f : Str) (v : V) : ∀ fs : List (Str × V),f ∈ (putF f v fs).map (·.1) /\ ∀ g,g ∈ fs.map (·.1) -> g ∈ (putF f v fs).map (·.1)
 | [] => ⟨by simp [putF],fun g h => by simp at h⟩
 | (k,x) :: r => by
   obtain ⟨i1,i2⟩ := Ot f v r
   rw [show putF f v ((k,x) :: r) = (if k = f then (k,v) :: r else (k,x) :: putF f v r) from rfl]
   by_cases hk : k = f
   . rw [if_pos hk]
     subst hk
     exact ⟨by simp,fun g h => by simpa using h⟩
   . rw [if_neg hk]
     refine ⟨?_,fun g h => ?_⟩
     . rw [List.map_cons]
       exact List.mem_cons_of_mem _ i1
     . rw [List.map_cons] at h ⊢
       rcases List.mem_cons.mp h with e | e
       . exact List.mem_cons.mpr (.inl e)
       . exact List.mem_cons_of_mem _ (i2 g e)
theorem Ju (f : Str) (v : V) : ∀ fs : List (Str × V),(putF f v fs).length <= fs.length + 1
 | [] => by simp [putF]
 | (k,x) :: r => by
   have ih := Ju f v r
   rw [show putF f v ((k,x) :: r) = (if k = f then (k,v) :: r else (k,x) :: putF f v r) from rfl]
   by_cases hk : k = f
   . rw [if_pos hk,List.length_cons,List.length_cons]; omega
   . rw [if_neg hk,List.length_cons,List.length_cons]; omega
theorem RelO.some_of {v : V} {o : Option Value} (r : RelO (some v) o) : ∃ u,o = some u /\ RelV v u := by
 cases o with
 | none => exact (show False from r).elim
 | some u => exact ⟨u,rfl,r⟩
theorem RelO.none_of {o : Option Value} (r : RelO none o) : o = none := by
 cases o with
 | none => rfl
 | some u => exact (show False from r).elim
theorem Ah2 {v : V} {u : Value} (r : RelV v u) : PySem.W.handedIn u = true := by
 cases v with
 | non => cases (show u = Value.none from r); rfl
 | bl b => cases (show u = Value.bool b from r); rfl
 | int i => obtain ⟨t,e⟩ := (show ∃ t,u = Value.int i t from r); cases e; rfl
 | str x => obtain ⟨t,e⟩ := (show ∃ t,u = Value.str x t from r); cases e; rfl
 | byt b => obtain ⟨t,e⟩ := (show ∃ t,u = Value.bytes b t from r); cases e; rfl
 | flt b => obtain ⟨t,e⟩ := (show ∃ t,u = Value.float b t from r); cases e; rfl
 | ref a => cases (show u = Value.ref a from r); rfl
 | ty n => cases (show u = Value.type n from r); rfl
section
variable {P : Program} {w : World} {H H' : Hp} {h h' : Heap} {a C dx : Addr} {fs fs' : List (Str × V)}
theorem Yf (hok : HOk P w H h) (e : H a = some (.ins C dx fs)) : ∃ mA,ObjM h a dx C mA /\ (∀ f,RelO (fs.lookup f) (mA f)) /\ PySem.Within mA (fs.map (·.1)) /\ fs.length <= 1000 /\ H dx = some (.own a) := by
 obtain ⟨d,z,ne,ob,mA,n,r,q⟩ := (show ObjOk P w H h a (.ins C dx fs) from hok a _ e)
 exact ⟨mA,⟨ob,n,ne⟩,r,q,z,d⟩
end
structure Cls (K : W.Frag) (C : Addr) : Prop where
 pg : PySem.W.plainGet K C Str.empty = true
 hd : PySem.W.hasDictIn K C = true
 po : PySem.W.plainOver K C = true
 sa : PySem.W.findIn K (.ref C) "__setattr__" = some (some (.builtin "object.__setattr__"))
theorem Cls.get {K : W.Frag} {C : Addr} (c : Cls K C) (f : Str) : PySem.W.plainGet K C f = true := c.pg
def NoAttr (K : W.Frag) (C : Addr) (f : Str) : Prop := PySem.W.findIn K (.ref C) f = some none
theorem NoAttr.taker {K : W.Frag} {C : Addr} {f : Str} (n : NoAttr K C f) : PySem.W.takerIn K C f = some none := by
 unfold PySem.W.takerIn
 rw [show PySem.W.findIn K (.ref C) f = some none from n]
 rfl
structure Meth (K : W.Frag) (C : Addr) (m : Str) (f : Addr) : Prop where
 at_ : PySem.W.findIn K (.ref C) m = some (some (.ref f))
 fn : PySem.W.isFn K (.ref f) = true
 kp : PySem.W.keepIn K (.ref f) = true
section
variable {X : Cx} {pins : List (Addr × Obj)} {σ : St} {H : Hp} {s : Shared} {a C dx : Addr} {fs : List (Str × V)} {f : Str} {v : V} {A : Around} {E : Value -> Shared -> Prop}
theorem j7 {b : Bool} {Q : Value -> Shared -> Prop} (I : Inv X pins σ H s) (e : H a = some (.ins C dx fs)) (c : Cls X.K C) (n : NoAttr X.K C f) (l : fs.lookup f = some v)
 (h : ∀ u s',Inv X pins σ H s' -> RelV v u -> Q u s') : wpAny (model X.prog X.w) A (getAttr (.ref a) f b) Q E s := by
 obtain ⟨mA,O,r,_,_,_⟩ := Yf I.hok e
 obtain ⟨u,hu,ru⟩ := RelO.some_of (v := v) (o := mA f) (by rw [← l]; exact r f)
 exact Az7 I.kIn O (c.get f) c.hd n hu (Ah2 ru) (h u _ (I.tok _) ru)
theorem Ma {m : Str} {g : Addr} {pl : Sem Bool} {Q : Value × List Value -> Shared -> Prop} (I : Inv X pins σ H s) (e : H a = some (.ins C dx fs)) (c : Cls X.K C) (k : Meth X.K C m g) (l : fs.lookup m = none)
 (h : Q (.ref g,[.ref a]) s) : wpAny (model X.prog X.w) A (getMethod (.ref a) m pl) Q E s := by
 obtain ⟨mA,O,r,_,_,_⟩ := Yf I.hok e
 have hn : mA m = none := RelO.none_of (by rw [← l]; exact r m)
 exact Ar2 I.kIn O (c.get m) k.at_ k.fn hn h
theorem Z3 {y : V} {u : Value} {Q : Unit -> Shared -> Prop} (I : Inv X pins σ H s) (e : H a = some (.ins C dx fs)) (c : Cls X.K C) (n : NoAttr X.K C f) (hl : fs.length < 1000) (ry : RelV y u)
 (h : ∀ s',Inv X pins σ (upd H a (.ins C dx (putF f y fs))) s' -> Q () s') : wpAny (model X.prog X.w) A (setAttr (.ref a) f u) Q E s := by
 obtain ⟨mA,O,r,wi,_,ho⟩ := Yf I.hok e
 have hz : (fs.map (·.1)).length <= sizeLine := by rw [List.length_map,sizeLine_eq]; omega
 refine Av6 I.kIn O c.sa c.po n.taker c.hd wi hz fun h' O' sb => h _ ?_
 have hd : ∃ o,h'.get? dx = some o := let ⟨o,_,_,e',_⟩ := O'.ns; ⟨o,e'⟩
 refine I.write (x := a) (e := dx) (by rw [e]; exact True.intro) (.inr ho) (fun b q hb z => (sb.2 b hb).trans z) hd ?_
 refine ⟨by rw [Ae O.ne]; exact ho,?_,O.ne,O'.obj,_,O'.ns,fun g => ?_,fun g hg => ?_⟩
 . have := Ju f y fs; omega
 . show RelO ((putF f y fs).lookup g) (if g = f then some u else mA g)
   rw [F5]
   by_cases q : g = f
   . rw [if_pos q,if_pos q]; exact ry
   . rw [if_neg q,if_neg q]; exact r g
 . by_cases q : g = f
   . rw [q]; exact (Ot f y fs).1
   . refine (Ot f y fs).2 g (wi g fun z => hg ?_)
     show (if g = f then some u else mA g) = none
     rw [if_neg q]; exact z
theorem Inv.made (I : Inv X pins σ H s) : Inv X pins σ (upd (upd H s.heap.objs.size (.own (s.heap.objs.size + 1))) (s.heap.objs.size + 1) (.ins C s.heap.objs.size []))
 { s with heap := (s.heap.push PySem.W.emptyDict).push (PySem.W.instObj C s.heap.objs.size) } := by
 have e1 : (s.heap.push PySem.W.emptyDict).get? s.heap.objs.size = some PySem.W.emptyDict := Heap.get?_push_size s.heap rfl
 have e2 : ((s.heap.push PySem.W.emptyDict).push (PySem.W.instObj C s.heap.objs.size)).get? (s.heap.objs.size + 1) = some (PySem.W.instObj C s.heap.objs.size) := by
  have := Heap.get?_push_size (s.heap.push PySem.W.emptyDict) (o := PySem.W.instObj C s.heap.objs.size) rfl
  rwa [Heap.size_push] at this
 have e3 : (s.heap.push PySem.W.emptyDict).Ns s.heap.objs.size (fun _ => none) := ⟨PySem.W.emptyDict,#[],_,e1,rfl,(fun e he => absurd he (by simp)),fun _ => rfl⟩
 have I1 := I.laid (a := s.heap.objs.size) (o := .own (s.heap.objs.size + 1)) (h' := s.heap.push PySem.W.emptyDict) (t' := s.toks) (fun b u q => Heap.get?_push_of_some _ q) (Nat.le_refl _) ⟨_,e1⟩
 refine I1.laid (a := s.heap.objs.size + 1) (o := .ins C s.heap.objs.size []) (t' := s.toks) (fun b u q => Heap.get?_push_of_some _ q) (Nat.le_of_eq (Heap.size_push _ _)) ?_
 have ne : s.heap.objs.size ≠ s.heap.objs.size + 1 := Nat.ne_of_lt (Nat.lt_succ_self _)
 refine ⟨by rw [Ae ne,Ab],Nat.zero_le _,ne,e2,fun _ => none,(Heap.Ns1.of_empty e3).at fun o q => Heap.get?_push_of_some _ q,fun _ => True.intro,fun y hy => absurd rfl hy⟩
theorem A12 {prog : Program} {w : World} {env : Env} {e : Expr} {f : Str} {pos : Pos} {s : Shared} {Q : Value -> Shared -> Prop} (hb : attributeBase e f env (eval e env) = eval e env)
 (h : wpAny (model prog w) A (eval e env) (fun o s₁ => wpAny (model prog w) A (getAttr o f true) Q E s₁) E s) : wpAny (model prog w) A (eval (.Attribute e f pos) env) Q E s :=
 Attribute_any_ h (by rw [arm_eval_Attribute,hb])
end
def tFld (K : W.Frag) (ta : TE) (f : Str) : TE := fun σ H Q => ta σ H fun x H1 => ∃ a C dx fs v,x = .ref a /\ H1 a = some (.ins C dx fs) /\ Cls K C /\ NoAttr K C f /\ fs.lookup f = some v /\ Q v H1
def sFld (K : W.Frag) (ta tv : TE) (f : Str) : TS := fun D σ H => tv σ H fun y H1 => ta σ H1 fun x H2 => ∃ a C dx fs,x = .ref a /\ H2 a = some (.ins C dx fs) /\ Cls K C /\ NoAttr K C f /\ fs.length < 1000 ∧
 D.nx σ (upd H2 a (.ins C dx (putF f y fs)))
section
variable {X : Cx} {o e value : Expr} {f : Str} {pos pos' tpos : Pos} {ta tv : TE}
theorem A38 (he : PE X e ta) (hb : attributeBase e f X.env (eval e X.env) = eval e X.env) : PE X (.Attribute e f pos) (tFld X.K ta f) := by
 intro pins s σ H Q I h
 refine A12 hb (thn (he pins s σ H _ I h) fun u s1 ⟨x,H1,I1,rx,a,C,dx,fs,v,ex,ea,c,n,l,q⟩ => ?_)
 subst ex
 obtain rfl : u = Value.ref a := rx
 exact j7 I1 ea c n l fun u' s2 I2 ru => ⟨v,H1,I2,ru,q⟩
theorem A32 (ha : PE X o ta) (hv : PE X value tv) (hs : swapsWith value (some (.Attribute o f pos')) pos.line X.env = pure false) : PS X (.Assign [.Attribute o f pos'] value pos) (sFld X.K ta tv f) := by
 intro pins s σ H D I h
 refine plainObj_wpAny_Assign_Attribute (thn (hv pins s σ H _ I h) fun u s1 ⟨y,H1,I1,ry,q⟩ => thn (ha pins s1 σ H1 _ I1 q) fun ov s2 ⟨x,H2,I2,rx,a,C,dx,fs,ex,ea,c,n,l,q2⟩ => ?_) hs
 subst ex
 obtain rfl : ov = Value.ref a := rx
 exact Z3 I2 ea c n l ry fun s3 I3 => ⟨σ,_,I3,q2⟩
theorem Ay7 {pl : Sem Bool} {m : Str} {apos : Pos} {args : List Expr} {pins : List (Addr × Obj)} {s : Shared} {σ : St} {H : Hp} {Q : Value -> Shared -> Prop} {te : TE} (he : PE X e te) (I : Inv X pins σ H s)
 (h : te σ H fun x H1 => ∃ a C dx fs g,x = .ref a /\ H1 a = some (.ins C dx fs) /\ Cls X.K C /\ Meth X.K C m g /\ fs.lookup m = none ∧
   ∀ s1,Inv X pins σ H1 s1 -> wpAny (model X.prog X.w) X.A (callWith pos (.ref g) [.ref a] (backTo pos (starEach args X.env)) (backToKw pos (keywordEach [] X.env))) Q X.xe s1)
 (ht : eval (.Call (.Attribute e m apos) args [] pos) X.env = (do
   let ov ← eval e X.env
   standAt apos.atName
   let (f,first) ← holding [ov] (getMethod ov m pl)
   callWith pos f first (backTo pos (starEach args X.env)) (backToKw pos (keywordEach [] X.env)))) :
 wpAny (model X.prog X.w) X.A (eval (.Call (.Attribute e m apos) args [] pos) X.env) Q X.xe s := by
 refine PySem.W.methodCall_KW (pl := pl) (thn (he pins s σ H _ I h) fun u s1 ⟨x,H1,I1,rx,a,C,dx,fs,g,ex,ea,c,k,l,q⟩ => ?_) ht
 subst ex
 obtain rfl : u = Value.ref a := rx
 exact Ma I1 ea c k l (q s1 I1)
end
section
variable {X : Cx} {pins : List (Addr × Obj)} {σ : St} {H : Hp} {s : Shared} {A : Around} {E : Value -> Shared -> Prop} {Q : Value -> Shared -> Prop} {c : Value} {b : Bool}
end
end L2
namespace L2
open PySem PySem.Spec PyProof.Rows
structure Room (k : Nat) (A : Around) : Prop where
 hd : A.handled = none
 dp : A.depth + 3 * k + 5 < recursionLimit
 un : A.units + 16 * k + 200 < cLine
 gd : A.guards = some []
theorem Room.mono {j k : Nat} {A : Around} (r : Room k A) (h : j <= k) : Room j A := ⟨r.hd,by have := r.dp; omega,by have := r.un; omega,r.gd⟩
theorem Room.deeper {k : Nat} {A : Around} (r : Room (k + 1) A) (env : Env) : Room k (A.deeper env) :=
 ⟨r.hd,by have := r.dp; show A.depth + 1 + 3 * k + 5 < _; omega,by have := r.un; show A.units + 3 + 16 * k + 200 < _; omega,r.gd⟩
theorem g9 {A : Around} {C : Addr} {us : List Value} {kw : List (Str × Value)} : (A.under (.builtin "type.__call__" ⟨.ref C :: us,kw⟩)).depth = A.depth + 1 := by
 first | rfl | simp [Around.under,Code.weight,Code.isCreation,Code.isGuard,Code.isCaller,Code.frames,Code.isFrame,guardIds]
theorem X6 {A : Around} {C : Addr} {us : List Value} {kw : List (Str × Value)} : (A.under (.builtin "type.__call__" ⟨.ref C :: us,kw⟩)).guards = A.guards := by
 first | rfl | simp [Around.under,Code.weight,Code.isCreation,Code.isGuard,Code.isCaller,Code.frames,Code.isFrame,guardIds]
theorem g8 {A : Around} {C : Addr} {us : List Value} {kw : List (Str × Value)} : (A.under (.builtin "type.__call__" ⟨.ref C :: us,kw⟩)).units = A.units + 1 := by
 first | rfl | simp [Around.under,Code.cUnits,Code.frames,Code.isFrame]
theorem Room.make {k : Nat} {A : Around} (r : Room (k + 1) A) (C : Addr) (us : List Value) (kw : List (Str × Value)) : Room k (A.under (.builtin "type.__call__" ⟨.ref C :: us,kw⟩)) :=
 ⟨r.hd,by have := r.dp; rw [g9]; omega,by have := r.un; rw [g8]; omega,by rw [X6]; exact r.gd⟩
theorem Room.depth {k : Nat} {A : Around} (r : Room k A) : A.depth < recursionLimit := by have := r.dp; omega
theorem Room.units {k : Nat} {A : Around} (r : Room k A) : A.units + 64 < cLine := by have := r.un; omega
def tNil : TA := fun _ H Q => Q [] H
def A90 (ta : TE) (tr : TA) : TA := fun σ H Q => ta σ H fun x H1 => tr σ H1 fun xs H2 => Q (x :: xs) H2
section
variable {X : Cx} {e : Expr} {es : List Expr} {te : TE} {t : TA} {pos : Pos}
theorem Ad : PA X [] tNil := fun _ _ _ _ H Q I h => Calls.spliced_nil ⟨[],H,I,.nil,h⟩
theorem Aa (ha : PE X e te) (hr : PA X es t) (hs : starEach (e :: es) X.env = (false,eval e X.env) :: starEach es X.env := by rfl) : PA X (e :: es) (A90 te t) := by
 intro pos pins s σ H Q I h
 rw [hs]
 show wpAny _ _ (spliced ((false,eval e X.env) :: backTo pos (starEach es X.env))) _ _ s
 refine Calls.spliced_cons (thn (ha pins s σ H _ I h) fun u s1 ⟨x,H1,I1,r1,q1⟩ => ?_)
 exact thn (hr pos pins s1 σ H1 _ I1 q1) fun us s2 ⟨xs,H2,I2,r2,q2⟩ => ⟨x :: xs,H2,I2,.cons r1 r2,q2⟩
def tTup (t : TA) : TE := fun σ H Q => t σ H fun xs H1 => xs.length <= sizeLine /\ ∀ p,H1 p = none -> Q (.ref p) (upd H1 p (.tup xs))
def tLst (t : TA) : TE := fun σ H Q => t σ H fun xs H1 => xs.length <= sizeLine /\ ∀ p,H1 p = none -> Q (.ref p) (upd H1 p (.lst xs))
theorem Cd {x1} (h : PA X es t) : PE X (.Tuple es x1 pos) (tTup t) := by
 intro pins s σ H Q I hq
 refine wpAny_Tuple_spliced (thn (h pos pins s σ H _ I hq) fun us s1 ⟨xs,H1,I1,r,z,q⟩ => ⟨by rw [← r.length]; exact z,?_⟩)
 have hf : H1 s1.heap.objs.size = none := I1.hok.fresh (Nat.le_refl _)
 refine ⟨.ref s1.heap.objs.size,upd H1 s1.heap.objs.size (.tup xs),I1.laid (t' := s1.toks) (fun b u e => Heap.get?_push_of_some _ e) (Nat.le_refl _) ?_,rfl,q _ hf⟩
 exact ⟨z,us,r,⟨_,Heap.get?_push_size _ rfl,rfl,rfl,_,rfl⟩⟩
theorem Er (h : PA X es t) : PE X (.List es pos) (tLst t) := by
 intro pins s σ H Q I hq
 refine wpAny_List_spliced (thn (h pos pins s σ H _ I hq) fun us s1 ⟨xs,H1,I1,r,z,q⟩ => ⟨by rw [← r.length]; exact z,?_⟩)
 have hf : H1 s1.heap.objs.size = none := I1.hok.fresh (Nat.le_refl _)
 refine ⟨.ref s1.heap.objs.size,upd H1 s1.heap.objs.size (.lst xs),I1.laid (t' := s1.toks) (fun b u e => Heap.get?_push_of_some _ e) (Nat.le_refl _) ?_,rfl,q _ hf⟩
 exact ⟨z,us,0,r,Heap.get?_push_size _ rfl⟩
end
abbrev Sp := List V -> Hp -> VK -> XK -> Prop
abbrev CXT := List Env -> Hp -> Shared -> XK -> Value -> Shared -> Prop
structure Env0 (P : Program) (w : World) (K : W.Frag) (mg : Str -> Option Value) (base : Heap) (A : Around) (outer : List Env) (s : Shared) (H : Hp) : Prop where
 frames : A.frames = some outer
 mod : Mod K mg base
 bs : ∀ b o,base.get? b = some o -> s.heap.get? b = some o /\ H b = none
 bsz : base.objs.size <= s.heap.objs.size
 funs : s.heap.FunFrames base outer
 frf : ∀ b ∈ frs outer,H b = none
 hok : HOk P w H s.heap
 bare : AllBare s.gens
def CE (outer : List Env) (P : Program) (w : World) (H : Hp) (s : Shared) (Q : VK) (u : Value) (s' : Shared) : Prop :=
 ∃ v H',s'.os = s.os /\ AllBare s'.gens /\ Un (frs outer) [] H H' s.heap s'.heap /\ HOk P w H' s'.heap /\ RelV v u /\ Q v H'
def CR (CX : CXT) (outer : List Env) (P : Program) (w : World) (H : Hp) (s : Shared) (Q : VK) (E : XK) (r : Result) (s' : Shared) : Prop :=
 match r with
 | .ok (.ret u) => CE outer P w H s Q u s'
 | .ok _ => False
 | .error e => CX outer H s E e s'
structure FnOk (P : Program) (w : World) (K : W.Frag) (mg : Str -> Option Value) (base : Heap) (CX : CXT) (k : Nat) (f : Addr) (fd : FuncData) (ps : List Str) (sp : Sp) : Prop where
 len : ∀ vs H Q E,sp vs H Q E -> vs.length = ps.length
 run : ∀ (A : Around) (outer : List Env) (s : Shared) (H : Hp) (args : Args) (us : List Value) (vs : List V) (Q : VK) (E : XK),Room k A -> Env0 P w K mg base A outer s H -> BindsTo s fd args (ps.zip us) -> Vals vs us -> sp vs H Q E →
  codeAny (model P w) A (.call (.ref f) args) (CR CX outer P w H s Q E) s
theorem Env0.make {P : Program} {w : World} {K : W.Frag} {mg : Str -> Option Value} {base : Heap} {A : Around} {outer : List Env} {s : Shared} {H : Hp} (e : Env0 P w K mg base A outer s H) (C : Addr) (us : List Value) (kw : List (Str × Value)) :
 Env0 P w K mg base (A.under (.builtin "type.__call__" ⟨.ref C :: us,kw⟩)) outer s H := ⟨by first | exact e.frames | (simpa [Around.under,Code.envs,Code.isFrame,pushEnvs] using e.frames),e.mod,e.bs,e.bsz,e.funs,e.frf,e.hok,e.bare⟩
section
variable {X : Cx} {pins : List (Addr × Obj)} {σ : St} {H : Hp} {s s' : Shared}
theorem Inv.env0 (I : Inv X pins σ H s) : Env0 X.prog X.w X.K X.mg X.base X.A X.stack s H :=
 ⟨I.ok.frames,I.ok.mod,I.bs,Nat.le_trans I.ok.bsz I.sz,I.stack,I.stkFree,I.hok,I.bare⟩
theorem Inv.after {Q : VK} {u : Value} (I : Inv X pins σ H s) (h : CE X.stack X.prog X.w H s Q u s') : EP X pins σ Q u s' := by
 obtain ⟨v,H',os,bare,un,hok,r,q⟩ := h
 obtain ⟨hh,g,d,t,os'⟩ := s'
 obtain rfl : os' = s.os := os
 exact ⟨v,H',I.call (h' := hh) (g' := g) (d' := d) (t' := t) (ch := []) un hok bare (fun b z => absurd z (by simp)),r,q⟩
end
def tCall (sp : Sp) (dvs : List V) (E : XK) (t : TA) : TE := fun σ H Q => t σ H fun vs H1 => sp (vs ++ dvs) H1 Q E
def An4 (C : Addr) (m : Str) (sp : Sp) (dvs : List V) (E : XK) (ta : TE) (t : TA) : TE := fun σ H Q => ta σ H fun x H1 => ∃ a dx fs,x = .ref a /\ H1 a = some (.ins C dx fs) /\ fs.lookup m = none ∧
 t σ H1 fun vs H2 => sp (x :: (vs ++ dvs)) H2 Q E
def An5 (C : Addr) (sp : Sp) (dvs : List V) (E : XK) (t : TA) : TE := fun σ H Q => t σ H fun vs H1 => ∀ x dx,H1 x = none -> H1 dx = none -> dx ≠ x →
 sp (.ref x :: (vs ++ dvs)) (upd (upd H1 dx (.own x)) x (.ins C dx [])) (fun v H2 => v = .non /\ Q (.ref x) H2) E
def J4 (K : W.Frag) (fd : FuncData) (ps : List Str) (ds : List Value) : Prop :=
 ∀ (s : Shared) (us : List Value),K.In s.heap -> (us ++ ds).length = ps.length -> BindsTo s fd ⟨us,[]⟩ (ps.zip (us ++ ds))
theorem J4.all {K : W.Frag} {fd : FuncData} {ps : List Str} (h : ∀ us : List Value,us.length = ps.length -> bindArgs fd ⟨us,[]⟩ = pure (ps.zip us)) : J4 K fd ps [] := fun s us _ hl => by
 rw [List.append_nil] at hl ⊢
 exact .of_eq (h us hl)
def M4 (CX : CXT) (X : Cx) (E : XK) : Prop := ∀ (pins : List (Addr × Obj)) (σ : St) (H : Hp) (s : Shared) (e : Value) (s' : Shared),Inv X pins σ H s -> CX X.stack H s E e s' -> X.xe e s'
section
variable {X : Cx} {CX : CXT} {k : Nat} {f C : Addr} {fd : FuncData} {ps : List Str} {sp : Sp} {dvs : List V} {ds : List Value} {E : XK} {x m : Str} {p pos apos : Pos} {e o : Expr} {es : List Expr} {ta : TE} {t : TA}
theorem Aa2 {pins : List (Addr × Obj)} {σ : St} {H : Hp} {s : Shared} {Q : VK} {us : List Value} {vs : List V} (F : FnOk X.prog X.w X.K X.mg X.base CX k f fd ps sp) (hr : Room k X.A) (hb : J4 X.K fd ps ds) (hd : Vals dvs ds) (hx : M4 CX X E)
 (I : Inv X pins σ H s) (r : Vals vs us) (h : sp (vs ++ dvs) H Q E) : wpAny (model X.prog X.w) X.A (call (.ref f) us) (EP X pins σ Q) X.xe s := by
 have r2 : Vals (vs ++ dvs) (us ++ ds) := r.append hd
 have hl : (us ++ ds).length = ps.length := by rw [← r2.length]; exact F.len _ _ _ _ h
 refine wpAny_call (codeAny_mono (F.run X.A X.stack s H ⟨us,[]⟩ (us ++ ds) (vs ++ dvs) Q E hr I.env0 (hb s us I.kIn hl) r2 h) fun r s' hq => ?_)
 cases r with
 | error e => exact hx pins σ H s e s' I hq
 | ok fl =>
   cases fl with
   | ret u => exact I.after hq
   | next => exact False.elim hq
   | brk => exact False.elim hq
   | cont => exact False.elim hq
theorem Ax3 (F : FnOk X.prog X.w X.K X.mg X.base CX k f fd ps sp) (hr : Room k X.A) (hg : Gl X x) (hm : X.mg x = some (.ref f)) (hk : PySem.W.keepIn X.K (.ref f) = true) (hb : J4 X.K fd ps ds) (hd : Vals dvs ds) (hx : M4 CX X E)
 (ha : PA X (e :: es) t) (hdb : (x == ("__debug__" : Str)) = false := by decide) (he : starEach (e :: es) X.env = (false,eval e X.env) :: starEach es X.env := by rfl) (hpl : (backTo pos (starEach es X.env)).any (·.1) = false := by rfl) :
 PE X (.Call (.Name x p) (e :: es) [] pos) (tCall sp dvs E t) := by
 intro pins s σ H Q I h
 refine wpAny_Call_Name_kw (Tw I hg hm ?_ hdb)
 refine PySem.W.callWith_K (h₀ := X.base) I.ok.mod.kin hk (thn (ha pos pins s σ H _ I h) fun us s1 ⟨vs,H1,I1,r,q⟩ => ⟨I1.kIn,?_⟩) he hpl
 exact Aa2 F hr hb hd hx I1 r q
theorem Aw8 {pl : Sem Bool} (he : PE X o ta) (c : Cls X.K C) (hm : Meth X.K C m f) (F : FnOk X.prog X.w X.K X.mg X.base CX k f fd ps sp) (hr : Room k X.A) (hb : J4 X.K fd ps ds) (hd : Vals dvs ds) (hx : M4 CX X E) (ha : PA X (e :: es) t)
 (hst : starEach (e :: es) X.env = (false,eval e X.env) :: starEach es X.env := by rfl) (hpl : (backTo pos (starEach es X.env)).any (·.1) = false := by rfl)
 (ht : eval (.Call (.Attribute o m apos) (e :: es) [] pos) X.env = (do
   let ov ← eval o X.env
   standAt apos.atName
   let (f,first) ← holding [ov] (getMethod ov m pl)
   callWith pos f first (backTo pos (starEach (e :: es) X.env)) (backToKw pos (keywordEach [] X.env))) := by rfl) :
 PE X (.Call (.Attribute o m apos) (e :: es) [] pos) (An4 C m sp dvs E ta t) := by
 intro pins s σ H Q I h
 refine PySem.W.methodCall_KW (pl := pl) (thn (he pins s σ H _ I h) fun u s1 ⟨x,H1,I1,rx,a,dx,fs,ex,ea,l,q⟩ => ?_) ht
 subst ex
 obtain rfl : u = Value.ref a := rx
 refine Ma I1 ea c hm l ?_
 refine PySem.W.callWith_K (first := [.ref a]) (h₀ := X.base) I.ok.mod.kin hm.kp (thn (ha pos pins s1 σ H1 _ I1 q) fun us s2 ⟨vs,H2,I2,r,q2⟩ => ⟨I2.kIn,?_⟩) hst hpl
 exact Aa2 (us := .ref a :: us) (vs := .ref a :: vs) F hr hb hd hx I2 (.cons rfl r) q2
theorem Ao5 {pl : Sem Bool} (he : PE X o ta) (c : Cls X.K C) (hm : Meth X.K C m f) (F : FnOk X.prog X.w X.K X.mg X.base CX k f fd ps sp) (hr : Room k X.A) (hb : J4 X.K fd ps ds) (hd : Vals dvs ds) (hx : M4 CX X E)
 (ht : eval (.Call (.Attribute o m apos) [] [] pos) X.env = (do
   let ov ← eval o X.env
   standAt apos.atName
   let (f,first) ← holding [ov] (getMethod ov m pl)
   callWith pos f first (backTo pos (starEach [] X.env)) (backToKw pos (keywordEach [] X.env))) := by rfl) :
 PE X (.Call (.Attribute o m apos) [] [] pos) (An4 C m sp dvs E ta tNil) := by
 intro pins s σ H Q I h
 refine PySem.W.methodCall_KW (pl := pl) (thn (he pins s σ H _ I h) fun u s1 ⟨x,H1,I1,rx,a,dx,fs,ex,ea,l,q⟩ => ?_) ht
 subst ex
 obtain rfl : u = Value.ref a := rx
 refine Ma I1 ea c hm l ?_
 exact PySem.W.callWith_K0 (first := [.ref a]) I1.kIn hm.kp (Aa2 (us := [.ref a]) (vs := [.ref a]) F hr hb hd hx I1 (.cons rfl .nil) q)
structure Mk (K : W.Frag) (C f : Addr) : Prop where
 makes : PySem.W.makesIn K C = true
 init : PySem.W.findIn K (.ref C) "__init__" = some (some (.ref f))
 fn : PySem.W.isFn K (.ref f) = true
 kp : PySem.W.keepIn K (.ref C) = true
theorem Y4 {pins : List (Addr × Obj)} {σ : St} {H : Hp} {s : Shared} {Q : VK} {us : List Value} {vs : List V} (M : Mk X.K C f) (F : FnOk X.prog X.w X.K X.mg X.base CX k f fd ps sp) (hr : Room (k + 1) X.A) (hb : J4 X.K fd ps ds) (hd : Vals dvs ds)
 (hx : M4 CX X E) (I : Inv X pins σ H s) (r : Vals vs us)
 (h : ∀ x dx,H x = none -> H dx = none -> dx ≠ x -> sp (.ref x :: (vs ++ dvs)) (upd (upd H dx (.own x)) x (.ins C dx [])) (fun v H2 => v = .non /\ Q (.ref x) H2) E) :
 wpAny (model X.prog X.w) X.A (call (.ref C) us) (EP X pins σ Q) X.xe s := by
 have hq := h (s.heap.objs.size + 1) s.heap.objs.size (I.hok.fresh (Nat.le_succ _)) (I.hok.fresh (Nat.le_refl _)) (Nat.ne_of_lt (Nat.lt_succ_self _))
 have I2 := Inv.made (C := C) I
 have r2 : Vals (V.ref (s.heap.objs.size + 1) :: (vs ++ dvs)) (Value.ref (s.heap.objs.size + 1) :: (us ++ ds)) := .cons rfl (r.append hd)
 have hl : (Value.ref (s.heap.objs.size + 1) :: us ++ ds).length = ps.length := by
  have e := r2.length
  rw [F.len _ _ _ _ hq] at e
  exact e.symm
 refine wpAny_call (Aq4 (f := f) I.kIn M.makes M.init (beq_iff_eq.mp M.fn) (codeAny_mono (F.run _ X.stack _ _ ⟨Value.ref (s.heap.objs.size + 1) :: us,[]⟩ (Value.ref (s.heap.objs.size + 1) :: (us ++ ds)) _ _ E (hr.make C us [])
  (I2.env0.make C us []) (hb _ (Value.ref (s.heap.objs.size + 1) :: us) I2.kIn hl) r2 hq) fun r s' hq' => ?_))
 cases r with
 | error e => exact hx pins σ _ _ e s' I2 hq'
 | ok fl =>
   cases fl with
   | ret u =>
     obtain ⟨v,H',I3,rv,ev,q3⟩ := I2.after hq'
     subst ev
     exact ⟨rv,⟨V.ref (s.heap.objs.size + 1),H',I3,rfl,q3⟩⟩
   | next => exact False.elim hq'
   | brk => exact False.elim hq'
   | cont => exact False.elim hq'
theorem Ax0 (M : Mk X.K C f) (F : FnOk X.prog X.w X.K X.mg X.base CX k f fd ps sp) (hr : Room (k + 1) X.A) (hg : Gl X x) (hm : X.mg x = some (.ref C)) (hb : J4 X.K fd ps ds) (hd : Vals dvs ds) (hx : M4 CX X E)
 (ha : PA X (e :: es) t) (hdb : (x == ("__debug__" : Str)) = false := by decide) (he : starEach (e :: es) X.env = (false,eval e X.env) :: starEach es X.env := by rfl) (hpl : (backTo pos (starEach es X.env)).any (·.1) = false := by rfl) :
 PE X (.Call (.Name x p) (e :: es) [] pos) (An5 C sp dvs E t) := by
 intro pins s σ H Q I h
 refine wpAny_Call_Name_kw (Tw I hg hm ?_ hdb)
 refine PySem.W.callWith_K (h₀ := X.base) I.ok.mod.kin M.kp (thn (ha pos pins s σ H _ I h) fun us s1 ⟨vs,H1,I1,r,q⟩ => ⟨I1.kIn,?_⟩) he hpl
 exact Y4 M F hr hb hd hx I1 r q
theorem Ao7 (M : Mk X.K C f) (F : FnOk X.prog X.w X.K X.mg X.base CX k f fd ps sp) (hr : Room (k + 1) X.A) (hg : Gl X x) (hm : X.mg x = some (.ref C)) (hb : J4 X.K fd ps ds) (hd : Vals dvs ds) (hx : M4 CX X E)
 (hdb : (x == ("__debug__" : Str)) = false := by decide) : PE X (.Call (.Name x p) [] [] pos) (An5 C sp dvs E tNil) := by
 intro pins s σ H Q I h
 refine wpAny_Call_Name_kw (Tw I hg hm ?_ hdb)
 exact PySem.W.callWith_K0 I.kIn M.kp (Y4 (us := []) M F hr hb hd hx I .nil h)
end
section
variable {X : Cx} {CX : CXT} {k : Nat} {f C : Addr} {fd : FuncData} {ps ks : List Str} {sp : Sp} {E : XK} {x m : Str} {p pos apos kpos : Pos} {e o : Expr} {es : List Expr} {kws : List Keyword} {te ta : TE} {t tk : TA} {nm : Option Str}
variable {g : List Value -> List Value -> List Value} {gV : List V -> List V -> List V}
end
structure FnScope (N P : List Str) (sc : Scope) : Prop where
 kind : sc.kind = .function
 co : sc.isCoroutine = false
 gen : sc.isGenerator = false
 nd : N.Nodup
 pre : N.take P.length = P
 par : ∀ x ∈ P,sc.names.lookup x = some .local \/ sc.names.lookup x = some .cell
 nofree : ∀ y ∈ sc.names,y.2 ≠ .free
theorem Wt {kindOf : Str -> Option NameKind} {x : Str} : ∀ {binds : List (Str × Value)} {m : Str -> Option Value},(∀ v,(x,v) ∉ binds) -> bindL kindOf binds m x = m x
 | [],_,_ => rfl
 | (n,v) :: r,m,h => by
   unfold bindL
   rw [Wt fun w hw => h w (List.mem_cons_of_mem _ hw)]
   split
   . have : x ≠ n := by rintro rfl; exact h v List.mem_cons_self
     simp [this]
   . rfl
theorem Wv {kindOf : Str -> Option NameKind} {x : Str} : ∀ {binds : List (Str × Value)} {m : Str -> Option Value},(∀ v,(x,v) ∉ binds) -> bindC kindOf binds m x = m x
 | [],_,_ => rfl
 | (n,v) :: r,m,h => by
   unfold bindC
   rw [Wv fun w hw => h w (List.mem_cons_of_mem _ hw)]
   split
   . rfl
   . have : x ≠ n := by rintro rfl; exact h v List.mem_cons_self
     simp [this]
theorem Wu {kindOf : Str -> Option NameKind} {x : Str} {v : Value} : ∀ {P : List Str} {vs : List Value} {i : Nat} {m : Str -> Option Value},P.Nodup -> P[i]? = some x -> vs[i]? = some v -> kindOf x = some .local →
 bindL kindOf (P.zip vs) m x = some v
 | [],_,_,_,_,h,_,_ => by simp at h
 | _ :: _,[],_,_,_,_,h,_ => by simp at h
 | p :: P,w :: vs,0,m,nd,h1,h2,hk => by
   simp at h1 h2; subst h1; subst h2
   show bindL kindOf ((p,w) :: P.zip vs) m p = _
   unfold bindL
   rw [Wt fun v hv => (List.nodup_cons.mp nd).1 (List.of_mem_zip hv).1,if_pos hk]
   simp
 | p :: P,w :: vs,i + 1,m,nd,h1,h2,hk => by
   show bindL kindOf ((p,w) :: P.zip vs) m x = _
   unfold bindL
   exact Wu (i := i) (List.nodup_cons.mp nd).2 (by simpa using h1) (by simpa using h2) hk
theorem Ww {kindOf : Str -> Option NameKind} {x : Str} {v : Value} : ∀ {P : List Str} {vs : List Value} {i : Nat} {m : Str -> Option Value},P.Nodup -> P[i]? = some x -> vs[i]? = some v -> kindOf x ≠ some .local →
 bindC kindOf (P.zip vs) m x = some v
 | [],_,_,_,_,h,_,_ => by simp at h
 | _ :: _,[],_,_,_,_,h,_ => by simp at h
 | p :: P,w :: vs,0,m,nd,h1,h2,hk => by
   simp at h1 h2; subst h1; subst h2
   show bindC kindOf ((p,w) :: P.zip vs) m p = _
   unfold bindC
   rw [Wv fun v hv => (List.nodup_cons.mp nd).1 (List.of_mem_zip hv).1,if_neg hk]
   simp
 | p :: P,w :: vs,i + 1,m,nd,h1,h2,hk => by
   show bindC kindOf ((p,w) :: P.zip vs) m x = _
   unfold bindC
   exact Ww (i := i) (List.nodup_cons.mp nd).2 (by simpa using h1) (by simpa using h2) hk
def start (N : List Str) (vs : List V) : St := vs.map some ++ List.replicate (N.length - vs.length) none
def cxOf (CX : CXT) (P : Program) (w : World) (K : W.Frag) (mg : Str -> Option Value) (base : Heap) (N : List Str) (qual : Str) (scope : Scope) (f : Addr) (cd : Value) (A : Around) (outer : List Env) (s : Shared) (H : Hp) (E : XK) : Cx where
 prog := P
 w := w
 K := K
 mg := mg
 base := base
 A := A.deeper (envOfC qual scope s.heap.objs.size f cd)
 N := N
 s₀ := s
 H₀ := H
 env := envOfC qual scope s.heap.objs.size f cd
 outer := outer
 stack := envOfC qual scope s.heap.objs.size f cd :: outer
 ex := []
 calm := true
 fn := fun _ => true
 pn := []
 xe := fun e s' => wpAny (model P w) (A.deeper (envOfC qual scope s.heap.objs.size f cd)) (leaving (envOfC qual scope s.heap.objs.size f cd) e) (fun _ s'' => CX outer H s E e s'') (fun e' s'' => CX outer H s E e' s'') s'
theorem Zj {sc : Scope} {n : Nat} {x : Str} (h : sc.names.lookup x = some .cell) : ∃ c,(cellsFrom n sc.names []).lookup x = some c := by
 have q := PySem.W.cellsFrom_some sc.names n [] (.inl h)
 exact Option.isSome_iff_exists.mp q
theorem Ag9 {CX : CXT} {P : Program} {w : World} {K : W.Frag} {mg : Str -> Option Value} {base : Heap} {N ps : List Str} {qual : Str} {scope : Scope} {f : Addr} {cd : Value} {A : Around} {outer : List Env} {s s1 : Shared} {H : Hp} {E : XK} {us : List Value} {vs : List V}
 (S : FnScope N ps scope) (hd : A.handled = none) (e0 : Env0 P w K mg base A outer s H) (hl : vs.length = ps.length) (r : Vals vs us)
 (x : InCallC s s.heap.objs.size (bindL (envOfC qual scope s.heap.objs.size f cd).kindOf (ps.zip us) fun _ => none) (cellsFrom (s.heap.objs.size + 1) scope.names []) (bindC (envOfC qual scope s.heap.objs.size f cd).kindOf (ps.zip us) fun _ => none) s1) :
 Inv (cxOf CX P w K mg base N qual scope f cd A outer s H E) [] (start N vs) H s1 := by
 have hpl : ps.length <= N.length := by have := congrArg List.length S.pre; rw [List.length_take] at this; omega
 obtain ⟨h1,tk,rfl,hk⟩ := x.done
 have noA : ∀ b : Addr,b ∉ (cxOf CX P w K mg base N qual scope f cd A outer s H E).ex := fun b z => absurd (show b ∈ ([] : List Addr) from z) (by simp)
 refine ⟨⟨e0.mod,S.kind,rfl,rfl,Nat.le_refl _,fun y z c h1 h2 => ?_,fun y hy => ?_,fun y c _ h => ?_,fun _ => hd,Around.frames_deeper e0.frames,.inr ⟨rfl,rfl⟩,fun b z => absurd z (noA b),e0.bs,e0.bsz,fun b _ _ => noA b,fun b z => absurd z (noA b),e0.funs,e0.frf⟩,
  rfl,e0.bare,Un.kept hk,⟨_,x.toInCall.ns,fun i y v h1 h2 h3 => ?_⟩,fun y c h => ⟨_,x.cell y c h⟩,e0.hok.fresh (Nat.le_refl _),fun y c h => ?_,fun p hp => absurd (show p ∈ ([] : List (Addr × Obj)) from hp) (by simp),e0.hok.kept hk,?_⟩
 . exact name_of_addr x.apart (PySem.mem_of_lookup h1) (PySem.mem_of_lookup h2)
 . have hy : scope.names.lookup y = some .cell \/ scope.names.lookup y = some .free := hy
   rcases hy with hy | hy
   . exact Zj hy
   . exact absurd rfl (S.nofree _ (PySem.mem_of_lookup hy))
 . exact Nat.le_of_lt (x.above y c (PySem.mem_of_lookup h))
 . have hi : i < vs.length := by
    unfold start at h2
    by_cases hi : i < vs.length
    . exact hi
    . rw [List.getElem?_append_right (by simpa using hi)] at h2
      rw [List.getElem?_replicate] at h2
      split at h2 <;> cases h2
   have ha : vs[i]? = some v := by
    unfold start at h2
    rw [List.getElem?_append_left (by simpa using hi),List.getElem?_map] at h2
    cases e : vs[i]? with
    | none => rw [e] at h2; cases h2
    | some a => rw [e] at h2; cases h2; rfl
   obtain ⟨u,hu,rv⟩ := r.get ha
   have hp : ps[i]? = some y := by
    rw [← S.pre,List.getElem?_take_of_lt (by omega)]; exact h1
   have ndP : ps.Nodup := by rw [← S.pre]; exact S.nd.sublist (List.take_sublist _ _)
   refine ⟨u,rv,?_⟩
   rcases S.par y (List.mem_of_getElem? hp) with k | k
   . exact .inl ⟨k,Wu ndP hp hu k⟩
   . obtain ⟨c,e⟩ := Zj (n := s.heap.objs.size + 1) k
     refine .inr ⟨.inl k,c,e,?_⟩
     have q := x.cell y c e
     rw [Ww ndP hp hu (by show scope.names.lookup y ≠ _; rw [k]; decide)] at q
     exact q
 . exact e0.hok.fresh (Nat.le_of_lt (x.above y c (PySem.mem_of_lookup h)))
 . unfold start
   show _ = N.length
   rw [List.length_append,List.length_map,List.length_replicate]
   omega
theorem A74 {CX : CXT} {P : Program} {w : World} {K : W.Frag} {mg : Str -> Option Value} {base : Heap} {k : Nat} {f : Addr} {name qual : Str} {params : Arguments} {body : List Stmt} {scope : Scope} {dV kV doc pm cdv ct oc : Value} {an od : Option Addr}
 {osl : Array (Option Value)} {N ps : List Str} {sp : Sp} (lk : K.lookup f = some ⟨oc,od,.func (PySem.W.fnOf name qual params body scope dV kV doc pm an cdv ct),osl⟩) (hcd : PySem.W.codeIn K cdv qual = true) (S : FnScope N ps scope)
 (len : ∀ vs H Q E,sp vs H Q E -> vs.length = ps.length)
 (hbody : ∀ (A : Around) (outer : List Env) (s : Shared) (H : Hp) (vs : List V) (Q : VK) (E : XK),Room k (A.deeper (envOfC qual scope s.heap.objs.size f cdv)) -> sp vs H Q E →
   ∃ t,PSs (cxOf CX P w K mg base N qual scope f cdv A outer s H E) body t /\ t { nx := fun _ H' => Q .non H',rt := Q } (start N vs) H) :
 FnOk P w K mg base CX (k + 1) f (PySem.W.fnOf name qual params body scope dV kV doc pm an cdv ct) ps sp := by
 refine ⟨len,fun A outer s H args us vs Q E hr e0 hb r hsp => ?_⟩
 have hl := len _ _ _ _ hsp
 have KX : K.In s.heap := e0.mod.kin.keeps fun b o e => (e0.bs b o e).1
 have lim : s.heap.NoLimit := e0.mod.nolimit.keeps fun b o e => (e0.bs b o e).1
 have hkind : ∀ y ∈ ps.zip us,scope.names.lookup y.1 = some .local \/ (scope.names.lookup y.1 = some .cell /\ ((cellsFrom (s.heap.objs.size + 1) scope.names []).lookup y.1).isSome = true) := fun ⟨n,v⟩ hy => by
  rcases S.par n (List.of_mem_zip hy).1 with q | q
  . exact .inl q
  . exact .inr ⟨q,PySem.W.cellsFrom_some _ _ _ (.inl q)⟩
 refine codeAny_call_function hr.depth (KX _ _ lk) rfl S.co S.gen rfl (PySem.W.codeRec_of KX hcd) (hb _ _ _ _ ?_)
 refine wpAny_newFunctionEnv_cells S.kind hkind fun env he s1 x => ?_
 subst he
 refine ⟨lim.keeps x.toInCall.keep,codeAny_func ?_⟩
 obtain ⟨t,ht,hq⟩ := hbody A outer s H vs Q E (hr.deeper _) hsp
 have I : Inv (cxOf CX P w K mg base N qual scope f cdv A outer s H E) [] (start N vs) H s1 := Ag9 S hr.hd e0 hl r x
 refine wpAny_mono (ht [] s1 (start N vs) H _ I hq) (fun fl s' hs => ?_) fun e s' hs => hs
 have fin : ∀ {σ' : St} {H' : Hp} {v : V} {u : Value},Inv (cxOf CX P w K mg base N qual scope f cdv A outer s H E) [] σ' H' s' -> RelV v u -> Q v H' -> CE outer P w H s Q u s' :=
  fun {σ' H' v u} J rv q => ⟨v,H',J.os,J.bare,J.base,J.hok,rv,q⟩
 cases fl with
 | ret u =>
   obtain ⟨v,σ',H',J,rv,q⟩ := hs
   exact fin J rv q
 | next =>
   obtain ⟨σ',H',J,q⟩ := hs
   exact fin (v := V.non) (u := Value.none) J rfl q
 | brk =>
   obtain ⟨_,_,_,q⟩ := hs
   exact False.elim q
 | cont =>
   obtain ⟨_,_,_,q⟩ := hs
   exact False.elim q
end L2
namespace L2
open PySem PySem.Spec PyProof.Rows
section
variable {X : Cx} {x : Str} {p pos : Pos} {e : Expr} {es : List Expr} {t : TA} {id T : String} {r : List V -> Hp -> VK -> Prop}
def tCB (r : List V -> Hp -> VK -> Prop) (t : TA) : TE := fun σ H Q => t σ H fun vs H1 => r vs H1 Q
theorem Ao (hc : Fp X (.builtin id) r) (hg : Gl X x) (hm : X.mg x = none) (hv : bootBuiltins x = some (.builtin id)) (ha : PA X (e :: es) t) (hn : x ≠ "__name__" := by decide) (hdb : (x == ("__debug__" : Str)) = false := by decide)
 (he : starEach (e :: es) X.env = (false,eval e X.env) :: starEach es X.env := by rfl) (hpl : (backTo pos (starEach es X.env)).any (·.1) = false := by rfl) : PE X (.Call (.Name x p) (e :: es) [] pos) (tCB r t) := by
 intro pins s σ H Q I h
 refine wpAny_Call_Name_kw (Jc I hg hm hv ?_ hn hdb)
 exact PyProof.Rows.callWith_builtin1 (thn (ha pos pins s σ H _ I h) fun us s1 ⟨vs,H1,I1,r1,q1⟩ => hc pins s1 σ H1 vs us Q I1 r1 q1) he hpl
theorem C5 (hc : Fp X (.type T) r) (hg : Gl X x) (hm : X.mg x = none) (hv : bootBuiltins x = some (.type T)) (ha : PA X (e :: es) t) (hn : x ≠ "__name__" := by decide) (hdb : (x == ("__debug__" : Str)) = false := by decide)
 (he : starEach (e :: es) X.env = (false,eval e X.env) :: starEach es X.env := by rfl) (hpl : (backTo pos (starEach es X.env)).any (·.1) = false := by rfl) : PE X (.Call (.Name x p) (e :: es) [] pos) (tCB r t) := by
 intro pins s σ H Q I h
 refine wpAny_Call_Name_kw (Jc I hg hm hv ?_ hn hdb)
 exact PyProof.Rows.callWith_type1 (thn (ha pos pins s σ H _ I h) fun us s1 ⟨vs,H1,I1,r1,q1⟩ => hc pins s1 σ H1 vs us Q I1 r1 q1) he hpl
end
end L2
namespace HT
open PySem PyProof.Rows
section
open PySem.SeqAt
open PySem.AutoSeq1 (wpAny_loadPart')
open PySem.MeetsSeq PySem.MeetsSeq2 PySem.MeetsSeq3
end
section
variable {prog : Program} {w : World} {A : Around} {E : Value -> Shared -> Prop} {s : Shared}
theorem cat_tup {t b : Addr} {vs ws : List Value} {Q : Value -> Shared -> Prop} (ht : IsTup s.heap t vs.toArray) (hb : IsTup s.heap b ws.toArray) (hv : vs ≠ [])
 (h1 : ws = [] -> Q (.ref t) s) (h2 : ws ≠ [] -> Q (.ref s.heap.objs.size) { s with heap := s.heap.push { cls := .type "tuple",data := .seq (vs ++ ws).toArray } })
 (hsz : vs.length + ws.length <= sizeLine) : wpAny (model prog w) A (binaryOp .Add (.ref t) (.ref b)) Q E s := by
 obtain ⟨⟨cls,dd,data,sl⟩,ho,hc,n,hd⟩ := id ht
 obtain ⟨⟨cls2,dd2,data2,sl2⟩,ho2,hc2,n2,hd2⟩ := id hb
 simp only at hc hd hc2 hd2
 subst hc hd hc2 hd2
 have e : vs.toArray ++ ws.toArray = (vs ++ ws).toArray := by simp
 by_cases hw : ws = []
 . exact concat_meets ⟨_,ho,rfl⟩ ⟨_,ho2,rfl⟩ noFill_tuple_add seq_tuple_add PySem.F.slot_tuple_add PySem.F.entry_tuple_add (PySem.F.args_tuple_add_2 _ _)
    (tuple_addW1 t b vs.toArray ws.toArray n n2 dd dd2 sl sl2 (by simpa using hv) (by simp [hw])) ⟨ho,ho2,h1 hw⟩
 . refine concat_meets ⟨_,ho,rfl⟩ ⟨_,ho2,rfl⟩ noFill_tuple_add seq_tuple_add PySem.F.slot_tuple_add PySem.F.entry_tuple_add (PySem.F.args_tuple_add_2 _ _)
    (tuple_addW2 t b vs.toArray ws.toArray n n2 dd dd2 sl sl2 (by simpa using hv) (by simpa using hw) (by rw [List.size_toArray,List.size_toArray]; exact hsz)) ⟨ho,ho2,?_⟩
   rw [e]
   exact h2 hw
def sIx (n d : Nat) : Option Int -> Nat
 | none => d
 | some v => if v < 0 then (v + (n : Int)).toNat else min v.toNat n
theorem sIx_none (n d : Nat) : sIx n d none = d := rfl
theorem sIx_nat (n d k : Nat) : sIx n d (some (k : Int)) = min k n := by
 show (if (k : Int) < 0 then ((k : Int) + (n : Int)).toNat else min (k : Int).toNat n) = min k n
 rw [if_neg (by omega),Int.toNat_natCast]
theorem A27 (n d : Nat) (hd : d <= n) (o : Option Int) : sIx n d o <= n := by
 cases o with
 | none => exact hd
 | some v =>
   show (if v < 0 then (v + (n : Int)).toNat else min v.toNat n) <= n
   by_cases hv : v < 0
   . rw [if_pos hv]; omega
   . rw [if_neg hv]; exact Nat.min_le_right _ _
theorem Ak8 (v : Int) (n d : Nat) : (if v < 0 then max (v + (n : Int)) 0 else min v (n : Int)) = ((sIx n d (some v) : Nat) : Int) := by
 show (if v < 0 then max (v + (n : Int)) 0 else min v (n : Int)) = (((if v < 0 then (v + (n : Int)).toNat else min v.toNat n) : Nat) : Int)
 by_cases hv : v < 0
 . simp only [if_pos hv]; omega
 . simp only [if_neg hv]; omega
theorem u6 (lo hi : Option Int) (n : Nat) : Builtin.Slice.sliceAdjust lo hi 1 (n : Int) = (((sIx n 0 lo : Nat) : Int),((sIx n n hi : Nat) : Int)) := by
 have h1 : ¬ ((1 : Int) < 0) := by omega
 unfold Builtin.Slice.sliceAdjust
 simp only [h1,if_false]
 refine Prod.ext ?_ ?_
 . cases lo with
   | none => rfl
   | some v => exact Ak8 v n 0
 . cases hi with
   | none => rfl
   | some v => exact Ak8 v n n
theorem b8 (i j : Nat) : Builtin.Slice.slicePlaces (i : Int) (j : Int) 1 = j - i := by
 unfold Builtin.Slice.slicePlaces
 have h1 : (1 : Int) > 0 := by omega
 simp only [h1,if_true,Int.ediv_one]
 split <;> omega
theorem Rr {v : Value} {o : Option Int} {Q : Option Int -> Shared -> Prop} (p : IsPart v o) (h : Q o s) : wpAny (model prog w) A (Builtin.Slice.slicePartIndex v) Q E s := by
 cases p with
 | none => exact slicePart_none h
 | int i t => exact slicePart_int h
theorem M9 {sl : Addr} {vl vu : Value} {lo hi : Option Int} {n : Nat} {Q : Int × Int × Nat -> Shared -> Prop} (hs : s.heap.IsSliceOf sl vl vu .none) (pl : IsPart vl lo) (pu : IsPart vu hi)
 (h : Q (((sIx n 0 lo : Nat) : Int),1,sIx n n hi - sIx n 0 lo) s) : wpAny (model prog w) A (Builtin.Slice.sliceApplied (.ref sl) (pure (n : Int))) Q E s := by
 obtain ⟨os,hos,hcs,hds⟩ := id hs
 unfold Builtin.Slice.sliceApplied Builtin.Slice.sliceFields
 refine wpAny_bind (wpAny_bind (wpAny_field hos hds (x := vl) rfl (wpAny_bind (wpAny_field hos hds (x := vu) rfl (wpAny_bind (wpAny_field hos hds (x := .none) rfl (wpAny_pure ?_)))))))
 refine wpAny_bind (slicePart_none ?_)
 show wpAny _ _ (if ((1 : Int) == 0) = true then _ else _) _ _ s
 rw [if_neg (by decide)]
 refine wpAny_bind (Rr pl (wpAny_bind (Rr pu (wpAny_bind (wpAny_pure ?_)))))
 show wpAny _ _ (match Builtin.Slice.sliceAdjust lo hi 1 (n : Int) with | (lo,hi) => pure (lo,(1 : Int),Builtin.Slice.slicePlaces lo hi 1)) _ _ s
 rw [u6 lo hi n]
 show wpAny _ _ (pure (((sIx n 0 lo : Nat) : Int),(1 : Int),Builtin.Slice.slicePlaces ((sIx n 0 lo : Nat) : Int) ((sIx n n hi : Nat) : Int) 1)) _ _ s
 rw [b8]
 exact wpAny_pure h
theorem Ao3 (xs : Array Value) (i k : Nat) : ((List.range k).filterMap fun (m : Nat) => xs[((i : Int) + (m : Int) * 1).toNat]?).toArray = ((xs.toList.drop i).take k).toArray := by
 have e : (fun (m : Nat) => xs[((i : Int) + (m : Int) * 1).toNat]?) = fun m => xs[i + m]? := by
  funext m
  have : ((i : Int) + (m : Int) * 1).toNat = i + m := by omega
  rw [this]
 rw [e]
 have := pick_run xs i k
 rw [List.filterMap_map] at this
 have e2 : ((fun x => xs[x]?) ∘ fun x => i + x) = fun m => xs[i + m]? := rfl
 rw [e2] at this
 rw [this]
theorem getItem_tuple_cut {t sl : Addr} {items : Array Value} {vl vu : Value} {lo hi : Option Int} {Q : Value -> Shared -> Prop} (ht : IsTup s.heap t items) (hs : s.heap.IsSliceOf sl vl vu .none) (pl : IsPart vl lo) (pu : IsPart vu hi)
 (hw : ¬ (sIx items.size 0 lo = 0 /\ sIx items.size items.size hi = items.size))
 (h : Q (.ref s.heap.objs.size) { s with heap := s.heap.push { cls := .type "tuple",data := .seq ((items.toList.drop (sIx items.size 0 lo)).take (sIx items.size items.size hi - sIx items.size 0 lo)).toArray } })
 (hsz : items.size <= sizeLine) : wpAny (model prog w) A (getItem (.ref t) (.ref sl)) Q E s := by
 have htake : sizeOk (.seq ((items.toList.drop (sIx items.size 0 lo)).take (sIx items.size items.size hi - sIx items.size 0 lo)).toArray) := by
  show ((items.toList.drop (sIx items.size 0 lo)).take (sIx items.size items.size hi - sIx items.size 0 lo)).toArray.size <= sizeLine
  rw [List.size_toArray,List.length_take,List.length_drop,Array.length_toList]
  omega
 have hj : sIx items.size items.size hi <= items.size := A27 _ _ (Nat.le_refl _) hi
 obtain ⟨os,hos,hcs,hds⟩ := id hs
 have hTs : s.TypeIs (.ref sl) "slice" := ⟨os,hos,hcs⟩
 unfold getItem
 try with_reducible refine wpAny_holding ?_
 first | refine wpAny_bind (wpAny_pure ?_) | skip
 refine wpAny_bind (wpAny_sequenceKey ht.typeIs (by decide) ?_)
 refine wpAny_bind (wpAny_callSpecial?_slot (name := Str.ofString "__getitem__") ht.typeIs PyProof.Rows.slot_tuple_getitem
  (wpAny_call_entry PyProof.Rows.slot_tuple_getitem ht.typeIs entry_tuple_getitem ?_ (args_tuple_getitem _ _)))
 show wpAny _ _ (Builtin.Tuple.tupleItemsOf (.ref t) >>= _) _ _ s
 refine wpAny_bind (tupleItemsOf_ ht ?_)
 refine wpAny_bind (wpAny_typeOf hTs ?_)
 rw [if_pos (by decide)]
 refine wpAny_bind (M9 hs pl pu ?_)
 have hno : ¬ ((((sIx items.size 0 lo : Nat) : Int) == 0 && (1 : Int) == 1 && (sIx items.size items.size hi - sIx items.size 0 lo) == items.size) = true) := by
  intro q
  rw [Bool.and_eq_true,Bool.and_eq_true] at q
  have q1 : ((sIx items.size 0 lo : Nat) : Int) = 0 := eq_of_beq q.1.1
  have q2 : sIx items.size items.size hi - sIx items.size 0 lo = items.size := eq_of_beq q.2
  exact hw ⟨by omega,by omega⟩
 show wpAny _ _ (if (((sIx items.size 0 lo : Nat) : Int) == 0 && (1 : Int) == 1 && (sIx items.size items.size hi - sIx items.size 0 lo) == items.size) = true then _ else _) _ _ s
 rw [if_neg hno,Ao3]
 first
  | exact wpAny_bind (m := Builtin.Tuple.tupleExact _) (wpAny_newObj_type (wpAny_pure ⟨_,rfl,wpAny_pure h⟩) htake)
  | exact wpAny_bind (m := Builtin.Tuple.tupleExact _) (wpAny_newObj_type (wpAny_bind (wpAny_pure (wpAny_pure ⟨_,rfl,wpAny_pure h⟩))) htake)
  | exact wpAny_bind (wpAny_bind (m := Builtin.Tuple.tupleExact _) (wpAny_newObj_type (wpAny_pure (wpAny_pure ⟨_,rfl,wpAny_pure h⟩)) htake))
  | exact wpAny_bind (wpAny_bind (m := Builtin.Tuple.tupleExact _) (wpAny_newObj_type (wpAny_pure ⟨_,rfl,wpAny_pure h⟩) htake))
end
end HT
namespace L2
open PySem PySem.Spec PyProof.Rows
abbrev TO := St -> Hp -> (Option Int -> Hp -> Prop) -> Prop
def PO (X : Cx) (e : Option Expr) (t : TO) : Prop :=
 ∀ (pins : List (Addr × Obj)) (s : Shared) (σ : St) (H : Hp) (Q : Option Int -> Hp -> Prop),Inv X pins σ H s -> t σ H Q →
   wpAny (model X.prog X.w) X.A (evalPart e X.env) (fun u s' => ∃ o H',Inv X pins σ H' s' /\ IsPart u o /\ Q o H') X.xe s
def Au8 : TO := fun _ H Q => Q none H
def A84 (t : TE) : TO := fun σ H Q => t σ H fun x H1 => ∃ i,x = .int i /\ Q (some i) H1
section
variable {X : Cx} {e : Expr} {te : TE} {lo hi : Option Expr} {tl th : TO} {pos p2 : Pos}
theorem Jr : PO X none Au8 := by
 intro pins s σ H Q I h
 rw [evalPart_none]
 exact wpAny_pure ⟨none,H,I,.none,h⟩
theorem Fy (h : PE X e te) : PO X (some e) (A84 te) := by
 intro pins s σ H Q I hw
 rw [evalPart_some]
 refine thn (h pins s σ H _ I hw) fun u s1 ⟨x,H1,I1,r1,q1⟩ => ?_
 obtain ⟨i,rfl,q⟩ := q1
 obtain ⟨t,rfl⟩ := r1
 exact ⟨some i,H1,I1,.int i t,q⟩
def SlR (X : Cx) (r : V -> Option Int -> Option Int -> Hp -> VK -> Prop) : Prop :=
 ∀ (pins : List (Addr × Obj)) (s : Shared) (σ : St) (H : Hp) (x : V) (v vl vu : Value) (lo hi : Option Int) (sl : Addr) (Q : VK),Inv X pins σ H s -> RelV x v -> s.heap.IsSliceOf sl vl vu .none -> IsPart vl lo -> IsPart vu hi -> r x lo hi H Q →
   ∃ T id,typeLookup (.type T) "__getitem__" = pure (some (.builtin id)) /\ s.TypeIs v T /\ wpAny (model X.prog X.w) X.A (getItem v (.ref sl)) (EP X pins σ Q) X.xe s
def tSl (r : V -> Option Int -> Option Int -> Hp -> VK -> Prop) (te : TE) (tl th : TO) : TE := fun σ H Q => te σ H fun x H1 => tl σ H1 fun l H2 => th σ H2 fun u H3 => r x l u H3 Q
theorem Ep {r : V -> Option Int -> Option Int -> Hp -> VK -> Prop} (hr : SlR X r) (he : PE X e te) (hl : PO X lo tl) (hu : PO X hi th) : PE X (.Subscript e (.Slice lo hi none p2) pos) (tSl r te tl th) := by
 intro pins s σ H Q I h
 refine Subscript_ (thn (he pins s σ H _ I h) fun v s1 ⟨x,H1,I1,r1,q1⟩ => ?_)
 refine wpAny_Slice (thn (hl pins s1 σ H1 _ I1 q1) fun vl s2 ⟨l,H2,I2,pl,q2⟩ => thn (hu pins s2 σ H2 _ I2 q2) fun vu s3 ⟨u,H3,I3,pu,q3⟩ => ?_)
 rw [evalPart_none]
 refine wpAny_pure ?_
 have I4 : Inv X pins σ H3 { s3 with heap := s3.heap.push { cls := .type "slice",data := .fields #[vl,vu,.none] } } := I3.kept (t' := s3.toks) fun b ob q => Heap.get?_push_of_some _ q
 obtain ⟨T,id,hT,ht,hg⟩ := hr pins { s3 with heap := s3.heap.push { cls := .type "slice",data := .fields #[vl,vu,.none] } } σ H3 x v vl vu l u s3.heap.objs.size Q I4 r1 (Heap.IsSliceOf.new ..) pl pu q3
 show wpAny (model X.prog X.w) X.A (subscriptTail e (.Slice lo hi none p2) v (.ref s3.heap.objs.size)) (EP X pins σ Q) X.xe { s3 with heap := s3.heap.push { cls := .type "slice",data := .fields #[vl,vu,.none] } }
 exact tail_any (ops := [.ref s3.heap.objs.size,v]) ht hT hg (by with_unfolding_all rfl)
def cutV (xs : List V) (lo hi : Option Int) : List V := (xs.drop (HT.sIx xs.length 0 lo)).take (HT.sIx xs.length xs.length hi - HT.sIx xs.length 0 lo)
theorem Pg (xs : List V) (lo hi : Option Int) : (cutV xs lo hi).length <= xs.length := by
 unfold cutV
 rw [List.length_take,List.length_drop]
 omega
def rSlT (K : W.Frag) : V -> Option Int -> Option Int -> Hp -> VK -> Prop := fun x lo hi H Q => ∃ a xs,x = .ref a /\ SqT K H a xs ∧
 ¬ (HT.sIx xs.length 0 lo = 0 /\ HT.sIx xs.length xs.length hi = xs.length) /\ ∀ p,H p = none -> Q (.ref p) (upd H p (.tup (cutV xs lo hi)))
theorem A24 : SlR X (rSlT X.K) := by
 intro pins s σ H x v vl vu lo hi sl Q I rx hs pl pu h
 obtain ⟨a,xs,rfl,hx,hw,q⟩ := h
 cases rx
 obtain ⟨its,r,ht,hz⟩ := I.tuple hx
 have hlen : its.toArray.size = xs.length := by rw [List.size_toArray]; exact r.length.symm
 refine ⟨"tuple",_,PyProof.Rows.slot_tuple_getitem.lookup,ht.typeIs,?_⟩
 refine HT.getItem_tuple_cut ht hs pl pu (by rw [hlen]; exact hw) ?_ (by rw [hlen]; exact hz)
 rw [hlen]
 refine ⟨.ref s.heap.objs.size,_,I.laid (t' := s.toks) (o := .tup (cutV xs lo hi)) (fun b ob q => Heap.get?_push_of_some _ q) (Nat.le_refl _) ?_,rfl,q _ (I.hok.fresh (Nat.le_refl _))⟩
 exact ⟨Nat.le_trans (Pg xs lo hi) hz,_,(r.drop (HT.sIx xs.length 0 lo)).take (HT.sIx xs.length xs.length hi - HT.sIx xs.length 0 lo),Jj.new _ _⟩
def A93 (K : W.Frag) : R2 := fun x y H Q => ∃ a b xs ys,x = .ref a /\ y = .ref b /\ SqT K H a xs /\ SqT K H b ys /\ xs ≠ [] /\ xs.length + ys.length <= sizeLine ∧
 (ys = [] -> Q (.ref a) H) /\ (ys ≠ [] -> ∀ p,H p = none -> Q (.ref p) (upd H p (.tup (xs ++ ys))))
theorem Vals.nil_iff {xs : List V} {us : List Value} (r : Vals xs us) : us = [] ↔ xs = [] := by
 cases r with
 | nil => simp
 | cons _ _ => simp
theorem Ax5 : OpR X (binaryOp .Add) (A93 X.K) := by
 intro pins s σ H x y v u Q I rx ry h
 obtain ⟨a,b,xs,ys,rfl,rfl,ha,hb,hx,hz,q1,q2⟩ := h
 cases rx
 cases ry
 obtain ⟨its,r1,p1,_⟩ := I.tuple ha
 obtain ⟨its2,r2,p2,_⟩ := I.tuple hb
 refine HT.cat_tup p1 p2 (fun z => hx (r1.nil_iff.mp z)) (fun z => ⟨.ref a,H,I,rfl,q1 (r2.nil_iff.mp z)⟩) (fun z => ?_) (by rw [← r1.length,← r2.length]; exact hz)
 refine ⟨.ref s.heap.objs.size,_,I.laid (t' := s.toks) (o := .tup (xs ++ ys)) (fun b ob q => Heap.get?_push_of_some _ q) (Nat.le_refl _) ?_,rfl,q2 (fun w => z (r2.nil_iff.mpr w)) _ (I.hok.fresh (Nat.le_refl _))⟩
 exact ⟨by rw [List.length_append]; exact hz,_,r1.append r2,Jj.new _ _⟩
end
end L2
namespace L2
open PySem PySem.Spec PyProof.Rows
def ixN (n : Nat) (i : Int) : Option Nat := if 0 <= i then (if i < n then some i.toNat else none) else if -(n : Int) <= i then some (i + n).toNat else none
def atI {α : Type} (xs : List α) (i : Int) : Option α := (ixN xs.length i).bind fun j => xs[j]?
theorem Az3 {n : Nat} {i : Int} {j : Nat} (h : ixN n i = some j) : seqIndex? i n = some j /\ j < n /\ -(n : Int) <= i /\ i < n := by
 unfold ixN at h
 by_cases h0 : 0 <= i
 . rw [if_pos h0] at h
   by_cases h1 : i < n
   . rw [if_pos h1] at h
     have e : i.toNat = j := Option.some.inj h
     exact ⟨by rw [seqIndex_of h0 h1,e],by omega,by omega,h1⟩
   . rw [if_neg h1] at h; cases h
 . rw [if_neg h0] at h
   by_cases h1 : -(n : Int) <= i
   . rw [if_pos h1] at h
     have e : (i + n).toNat = j := Option.some.inj h
     exact ⟨by rw [seqIndex_neg (by omega) h1,e],by omega,h1,by omega⟩
   . rw [if_neg h1] at h; cases h
theorem Al8 {α : Type} {xs : List α} {i : Int} {v : α} (h : atI xs i = some v) : ∃ j,seqIndex? i xs.length = some j /\ xs[j]? = some v /\ j < xs.length /\ -(xs.length : Int) <= i /\ i < xs.length := by
 unfold atI at h
 cases e : ixN xs.length i with
 | none => rw [e] at h; cases h
 | some j =>
   rw [e] at h
   obtain ⟨h1,h2,h3,h4⟩ := Az3 e
   exact ⟨j,h1,h,h2,h3,h4⟩
theorem Cl {α : Type} {xs : List α} {j : Nat} {v : α} (h : xs[j]? = some v) : atI xs (j : Int) = some v := by
 have hj : j < xs.length := (List.getElem?_eq_some_iff.mp h).1
 have e : ixN xs.length (j : Int) = some j := by
  unfold ixN
  rw [if_pos (by omega),if_pos (by omega)]; simp
 unfold atI; rw [e]; exact h
def Am9 (b : Expr) : Prop := ∀ o i,subscripted b false o i = operate [o,i] (getItem o i)
def IxR (X : Cx) (r : R2) : Prop :=
 ∀ (value slice : Expr) (pins : List (Addr × Obj)) (s : Shared) (σ : St) (H : Hp) (x y : V) (v u : Value) (Q : VK),Inv X pins σ H s -> RelV x v -> RelV y u -> r x y H Q →
   subscripted slice false v u = operate [v,u] (getItem v u) -> wpAny (model X.prog X.w) X.A (subscriptTail value slice v u) (EP X pins σ Q) X.xe s
def MtR (X : Cx) (id : String) (r : V -> List V -> Hp -> VK -> Prop) : Prop :=
 ∀ (pins : List (Addr × Obj)) (s : Shared) (σ : St) (H : Hp) (x : V) (xs : List V) (v : Value) (us : List Value) (Q : VK),Inv X pins σ H s -> RelV x v -> Vals xs us -> r x xs H Q →
   wpAny (model X.prog X.w) X.A (call (.builtin id) (v :: us)) (EP X pins σ Q) X.xe s
section
variable {X : Cx} {a b : Expr} {ta tb : TE} {pos : Pos}
theorem Bc {r : R2} (hr : IxR X r) (ha : PE X a ta) (hb : PE X b tb) (hs : Am9 b) : PE X (.Subscript a b pos) (tOp r ta tb) := by
 intro pins s σ H Q I h
 exact Subscript_ (binT ha hb I h fun v u s2 x y H2 I2 rx ry q => hr a b pins s2 σ H2 x y v u Q I2 rx ry q (hs _ _))
def rIxL (K : W.Frag) : R2 := fun x y H Q => ∃ p xs i v,x = .ref p /\ y = .int i /\ SqL K H p xs /\ atI xs i = some v /\ Q v H
def rIxT (K : W.Frag) : R2 := fun x y H Q => ∃ p xs i v,x = .ref p /\ y = .int i /\ SqT K H p xs /\ atI xs i = some v /\ Q v H
theorem Az2 : IxR X (rIxL X.K) := by
 intro value slice pins s σ H x y v u Q I rx ry h hs
 obtain ⟨p,xs,i,z,rfl,rfl,hq,he,q⟩ := h
 cases rx
 obtain ⟨t,rfl⟩ := ry
 obtain ⟨its,r,pl,hz⟩ := I.list hq
 obtain ⟨j,h1,h2,h3,h4,h5⟩ := Al8 he
 obtain ⟨w,ew,rw'⟩ := r.get h2
 have hl := r.length
 have hn := Af7
 have fin : EP X pins σ Q w s := ⟨z,H,I,rw',q⟩
 by_cases h0 : 0 <= i
 . have hj : i.toNat = j := by
    rw [seqIndex_of h0 h5] at h1
    exact Option.some.inj h1
   exact item_listR pl.isList h0 (by omega) (by rw [hj]; simpa using ew) fin hs
 . have hj : (i + (its.toArray.size : Int)).toNat = j := by
    rw [seqIndex_neg (by omega) h4] at h1
    rw [List.size_toArray,← hl]
    exact Option.some.inj h1
   exact subscriptTail_builtinR (x := w) pl.isList.typeIs slot_list_getitem.lookup
    (wpAny_getItem_list_neg (Q := fun r s' => r = w /\ EP X pins σ Q r s') pl.isList (by omega) (by rw [List.size_toArray] <;> omega) (by omega) (by rw [hj]; simpa using ew) ⟨rfl,fin⟩) hs
theorem A67 : IxR X (rIxT X.K) := by
 intro value slice pins s σ H x y v u Q I rx ry h hs
 obtain ⟨p,xs,i,z,rfl,rfl,hq,he,q⟩ := h
 cases rx
 obtain ⟨t,rfl⟩ := ry
 obtain ⟨its,r,pl,hz⟩ := I.tuple hq
 obtain ⟨j,h1,h2,h3,h4,h5⟩ := Al8 he
 obtain ⟨w,ew,rw'⟩ := r.get h2
 have hl := r.length
 have hn := Af7
 have fin : EP X pins σ Q w s := ⟨z,H,I,rw',q⟩
 exact subscriptTail_builtinR (x := w) pl.typeIs slot_tuple_getitem.lookup
  (getItem_tuple (j := j) (Q := fun r s' => r = w /\ EP X pins σ Q r s') pl (by omega) (by omega) (by rw [List.size_toArray,← hl]; exact h1) (by simpa using ew) ⟨rfl,fin⟩) hs
theorem U0 (lo hi : Option Int) (n : Nat) : (sliceBounds lo hi none n).1 = ((HT.sIx n 0 lo : Nat) : Int) /\ (sliceBounds lo hi none n).2.1 = ((HT.sIx n n hi : Nat) : Int) /\ (sliceBounds lo hi none n).2.2 = 1 := by
 refine ⟨?_,?_,rfl⟩
 . cases lo with
   | none => simp [sliceBounds,HT.sIx]
   | some i =>
     simp only [sliceBounds,HT.sIx,Option.getD_none,show (1 : Int) > 0 by decide,if_true]
     by_cases h : i < 0
     . simp only [h,if_true] <;> omega
     . simp only [h,if_false] <;> omega
 . cases hi with
   | none => simp [sliceBounds,HT.sIx]
   | some i =>
     simp only [sliceBounds,HT.sIx,Option.getD_none,show (1 : Int) > 0 by decide,if_true]
     by_cases h : i < 0
     . simp only [h,if_true] <;> omega
     . simp only [h,if_false] <;> omega
theorem Sz (its : List Value) (lo hi : Option Int) : slicePick its.toArray lo hi none = ((its.drop (HT.sIx its.length 0 lo)).take (HT.sIx its.length its.length hi - HT.sIx its.length 0 lo)).toArray := by
 obtain ⟨h1,h2,h3⟩ := U0 lo hi its.toArray.size
 unfold slicePick
 rw [h1,h2,h3]
 simp only [sliceRange_one,pick_run,List.size_toArray] <;> rfl
def rSlL (K : W.Frag) : V -> Option Int -> Option Int -> Hp -> VK -> Prop := fun x lo hi H Q => ∃ a xs,x = .ref a /\ SqL K H a xs /\ ∀ p,H p = none -> Q (.ref p) (upd H p (.lst (cutV xs lo hi)))
theorem Av4 : SlR X (rSlL X.K) := by
 intro pins s σ H x v vl vu lo hi sl Q I rx hs pl pu h
 obtain ⟨a,xs,rfl,hx,q⟩ := h
 cases rx
 obtain ⟨its,r,ht,hz⟩ := I.list hx
 have hlen := r.length
 refine ⟨"list",_,slot_list_getitem.lookup,ht.isList.typeIs,?_⟩
 refine wpAny_getItem_list_slice ht.isList hs pl pu .none (by simp) ?_ (by rw [List.size_toArray] <;> omega)
 rw [Sz,← hlen]
 refine ⟨.ref s.heap.objs.size,_,I.laid (t' := s.toks) (o := .lst (cutV xs lo hi)) (fun b ob q => Heap.get?_push_of_some _ q) (Nat.le_refl _) ?_,rfl,q _ (I.hok.fresh (Nat.le_refl _))⟩
 exact ⟨Nat.le_trans (Pg xs lo hi) hz,_,0,(r.drop (HT.sIx xs.length 0 lo)).take (HT.sIx xs.length xs.length hi - HT.sIx xs.length 0 lo),Heap.get?_push_size _ rfl⟩
theorem Wp : Fp X (.builtin "len") (fun xs H Q => ∃ p ys,xs = [.ref p] /\ (SqL X.K H p ys \/ SqT X.K H p ys) /\ Q (.int ys.length) H) := by
 intro pins s σ H xs us Q I r h
 obtain ⟨p,ys,rfl,hq,q⟩ := h
 obtain ⟨u,rfl,rx⟩ := So r
 cases rx
 have hn := Af7
 rcases hq with hq | hq
 . obtain ⟨its,r',pl,hz⟩ := I.list hq
   have hlen := r'.length
   exact Calls.call_len_list pl.isList (by simp only [List.size_toArray] <;> omega) ⟨.int ys.length,H,I.tok _,⟨s.toks + 1,by rw [List.size_toArray,hlen]⟩,q⟩
 . obtain ⟨its,r',pl,hz⟩ := I.tuple hq
   have hlen := r'.length
   exact len_tuple pl (by simp only [List.size_toArray] <;> omega) ⟨.int ys.length,H,I.tok _,⟨s.toks + 1,by rw [List.size_toArray,hlen]⟩,q⟩
theorem Wo : Fp X (.type "list") (fun xs H Q => ∃ p ys,xs = [.ref p] /\ (SqL X.K H p ys \/ SqT X.K H p ys) /\ ∀ l,H l = none -> Q (.ref l) (upd H l (.lst ys))) := by
 intro pins s σ H xs us Q I r h
 obtain ⟨p,ys,rfl,hq,q⟩ := h
 obtain ⟨u,rfl,rx⟩ := So r
 cases rx
 have fin : ∀ (its : List Value),Vals ys its -> ys.length <= sizeLine -> ∀ (h' : Heap) (c' : Nat),(∀ b o',s.heap.get? b = some o' -> h'.get? b = some o') →
  h'.get? s.heap.objs.size = some { cls := .type "list",dict := none,data := .seq its.toArray c',slots := #[] } -> EP X pins σ Q (.ref s.heap.objs.size) { s with heap := h' } := fun its r' hz h' c' kp e =>
  ⟨.ref s.heap.objs.size,_,I.laid (t' := s.toks) kp (Nat.le_refl _) (show ObjOk X.prog X.w _ h' _ (.lst ys) from ⟨hz,its,c',r',e⟩),rfl,q _ (I.hok.fresh (Nat.le_refl _))⟩
 rcases hq with hq | hq
 . obtain ⟨its,r',pl,hz⟩ := I.list hq
   have hlen := r'.length
   obtain ⟨o,ho,hc,n,hd⟩ := pl.isList
   exact call_list_seq p (.inl rfl) ho hc hd (fun h' c' kp e => fin its r' hz h' c' kp e) (by simp only [List.size_toArray] <;> omega)
 . obtain ⟨its,r',pl,hz⟩ := I.tuple hq
   have hlen := r'.length
   obtain ⟨o,ho,hc,n,hd⟩ := pl
   exact call_list_seq p (.inr rfl) ho hc hd (fun h' c' kp e => fin its r' hz h' c' kp e) (by simp only [List.size_toArray] <;> omega)
theorem Ur : Fp X (.type "tuple") (fun xs H Q => ∃ p ys,xs = [.ref p] /\ ((SqL X.K H p ys /\ ∀ l,H l = none -> Q (.ref l) (upd H l (.tup ys))) \/ (SqT X.K H p ys /\ Q (.ref p) H))) := by
 intro pins s σ H xs us Q I r h
 obtain ⟨p,ys,rfl,h⟩ := h
 obtain ⟨u,rfl,rx⟩ := So r
 cases rx
 rcases h with ⟨hq,q⟩ | ⟨hq,q⟩
 . obtain ⟨its,r',pl,hz⟩ := I.list hq
   have hlen := r'.length
   refine call_tuple_list pl.isList (fun h' kp => ?_) (by simp only [List.size_toArray] <;> omega)
   have I1 : Inv X pins σ H { s with heap := h' } := I.kept (t' := s.toks) kp
   have I2 : Inv X pins σ (upd H h'.objs.size (.tup ys)) { s with heap := h'.push { cls := .type "tuple",data := .seq its.toArray } } :=
    I1.laid (t' := s.toks) (fun b o e => Heap.get?_push_of_some _ e) (Nat.le_refl _) (show ObjOk X.prog X.w _ _ _ (.tup ys) from ⟨hz,its,r',Jj.new _ _⟩)
   exact ⟨.ref h'.objs.size,_,I2,rfl,q _ (I1.hok.fresh (Nat.le_refl _))⟩
 . obtain ⟨its,r',pl,hz⟩ := I.tuple hq
   exact call_tuple_same pl ⟨.ref p,H,I,rfl,q⟩
def tyV (K : W.Frag) (T : String) (x : V) (H : Hp) : Prop := match x with
 | .str _ => T = "str"
 | .int _ => T = "int"
 | .ref p => (T = "list" /\ ∃ xs,SqL K H p xs) \/ (T = "tuple" /\ ∃ o,K.lookup p = some o /\ o.cls = .type "tuple" /\ o.dict = none) ∨
    (T = "dict" /\ ((∃ kvs,H p = some (.dK kvs)) \/ ∃ kvs,H p = some (.dT kvs))) \/ (T = "set" /\ ∃ S n,H p = some (.set S n))
 | _ => False
theorem As7 {pins : List (Addr × Obj)} {σ : St} {H : Hp} {s : Shared} {T : String} {x : V} {v : Value} (I : Inv X pins σ H s) (r : RelV x v) (ty : tyV X.K T x H) :
 s.TypeIs v T /\ ∀ a,v = .ref a -> ∃ ob,s.heap.get? a = some ob /\ ob.dict = none := by
 cases x with
 | str z =>
   obtain ⟨t,rfl⟩ := r
   cases (show T = "str" from ty)
   exact ⟨typeIs_str s z t,fun _ e => nomatch e⟩
 | int i =>
   obtain ⟨t,rfl⟩ := r
   cases (show T = "int" from ty)
   exact ⟨typeIs_int s i t,fun _ e => nomatch e⟩
 | ref p =>
   cases r
   rcases ty with ⟨rfl,xs,hq⟩ | ⟨rfl,o,hk,hc,hd⟩ | ⟨rfl,hk⟩ | ⟨rfl,S,n,hk⟩
   . obtain ⟨its,_,pl,_⟩ := I.list hq
     refine ⟨pl.isList.typeIs,fun a e => ?_⟩
     cases e
     obtain ⟨o,n,e,c,hd,_⟩ := pl
     exact ⟨o,e,hd⟩
   . refine ⟨⟨o,I.kIn p o hk,hc⟩,fun a e => ?_⟩
     cases e
     exact ⟨o,I.kIn _ o hk,hd⟩
   . have z : ∃ o,s.heap.get? p = some o /\ o.ExactDict := by
      rcases hk with ⟨kvs,hk⟩ | ⟨kvs,hk⟩
      . obtain ⟨_,_,_,_,o,_,_,e,ex,_⟩ := I.hok p _ hk
        exact ⟨o,e,ex⟩
      . obtain ⟨_,_,_,_,o,_,_,e,ex,_⟩ := I.hok p _ hk
        exact ⟨o,e,ex⟩
     obtain ⟨o,e,ex⟩ := z
     refine ⟨⟨o,e,ex.1⟩,fun a e2 => ?_⟩
     cases e2
     exact ⟨o,e,ex.2.1⟩
   . obtain ⟨o,_,_,_,e,ex,_⟩ := I.hok p _ hk
     refine ⟨⟨o,e,ex.1⟩,fun a e2 => ?_⟩
     cases e2
     exact ⟨o,e,ex.2.1⟩
 | _ => exact False.elim ty
def tBM0 (K : W.Frag) (T : String) (r : V -> List V -> Hp -> VK -> Prop) (to : TE) : TE := fun σ H Q => to σ H fun x H1 => tyV K T x H1 /\ r x [] H1 Q
def tBM (K : W.Frag) (T : String) (r : V -> List V -> Hp -> VK -> Prop) (to : TE) (t : TA) : TE := fun σ H Q => to σ H fun x H1 => tyV K T x H1 /\ t σ H1 fun xs H2 => r x xs H2 Q
variable {o e : Expr} {es : List Expr} {to : TE} {t : TA} {name : Str} {apos cpos : Pos} {T id : String} {r : V -> List V -> Hp -> VK -> Prop}
theorem A39 (pa : PlainAttrs T) (slot : Slot T name id) (hty : typeOf (.builtin id) = pure (.type "method_descriptor")) (hm : MtR X id r) (ho : PE X o to)
 (hbase : attributeBase o name X.env (eval o X.env) = eval o X.env := by rfl) (hline : (apos.endLine == cpos.line) = true := by rfl) : PE X (.Call (.Attribute o name apos) [] [] cpos) (tBM0 X.K T r to) := by
 intro pins s σ H Q I h
 refine wpAny_Call_method0_late hbase hline (thn (ho pins s σ H _ I h) fun v s1 ⟨x,H1,I1,r1,ty,q1⟩ => ?_)
 obtain ⟨h1,h2⟩ := As7 I1 r1 ty
 exact ⟨T,id,pa,slot,hty,h1,h2,Calls.callWith_builtin rfl (PySem.evalArgs_none (hm pins s1 σ H1 x [] v [] Q I1 r1 .nil q1))⟩
theorem A95 (pa : PlainAttrs T) (slot : Slot T name id) (hty : typeOf (.builtin id) = pure (.type "method_descriptor")) (hm : MtR X id r) (ho : PE X o to) (ha : PA X (e :: es) t)
 (hbase : attributeBase o name X.env (eval o X.env) = eval o X.env := by rfl)
 (hfew : ((backTo cpos (starEach (e :: es) X.env)).all (fun x => !x.1) && (backToKw cpos (keywordEach [] X.env)).all (fun x => x.1.isSome)
   && decide ((e :: es).length + ([] : List Keyword).length + (if ([] : List Keyword).isEmpty then 0 else 1) < 30)) = true := by rfl)
 (hline : (apos.endLine == cpos.line) = true := by rfl) (hs : starEach (e :: es) X.env = (false,eval e X.env) :: starEach es X.env := by rfl) (hplain : (backTo cpos (starEach es X.env)).any (·.1) = false := by rfl) :
 PE X (.Call (.Attribute o name apos) (e :: es) [] cpos) (tBM X.K T r to t) := by
 intro pins s σ H Q I h
 refine wpAny_Call_method_late hbase hfew hline rfl (thn (ho pins s σ H _ I h) fun v s1 ⟨x,H1,I1,r1,ty,q1⟩ => ?_)
 obtain ⟨h1,h2⟩ := As7 I1 r1 ty
 refine ⟨T,id,pa,slot,hty,h1,h2,?_⟩
 have hA := ha cpos pins s1 σ H1 _ I1 q1
 rw [hs] at hA ⊢
 refine Calls.callWith_builtin (by show (false || (backTo cpos (starEach es X.env)).any (·.1)) = false; rw [hplain] <;> rfl) (Calls.evalArgs_plain ?_)
 exact thn hA fun us s2 ⟨vs,H2,I2,r2,q2⟩ => hm pins s2 σ H2 x vs v us Q I2 r1 r2 q2
end
end L2
namespace L2
open PySem PySem.Spec PyProof.Rows
def MtM (X : Cx) (id : String) (r : V -> List V -> Hp -> VK -> Prop) : Prop :=
 ∀ (pins : List (Addr × Obj)) (s : Shared) (σ : St) (H : Hp) (x : V) (xs : List V) (v : Value) (us : List Value) (Q : VK),Inv X pins σ H s -> RelV x v -> Vals xs us -> r x xs H Q →
   wpAny (model X.prog X.w) X.A (call (.builtin id) (v :: us)) (EP X pins σ Q) X.xe s
theorem Vals.one : ∀ {x : V} {us : List Value},Vals [x] us -> ∃ u,us = [u] /\ RelV x u
 | _,_,.cons r .nil => ⟨_,rfl,r⟩
theorem Vals.zero : ∀ {us : List Value},Vals [] us -> us = []
 | _,.nil => rfl
section
variable {X : Cx} {pins : List (Addr × Obj)} {σ : St} {H : Hp} {s : Shared} {l b : Addr} {xs ys zs : List V}
theorem Inv.lset {its its' : List Value} {n : Nat} {f : Array Value -> Array Value} {t' : Nat} (I : Inv X pins σ H s) (hH : H l = some (.lst xs))
 (e : s.heap.get? l = some { cls := .type "list",data := .seq its.toArray n }) (hf : f its.toArray = its'.toArray) (hv : Vals ys its') (hz : ys.length <= sizeLine) :
 Inv X pins σ (upd H l (.lst ys)) { s with heap := s.heap.update l (Obj.mapSeq f),toks := t' } := by
 have q := PySem.IsL.update e f
 rw [hf] at q
 refine I.write (x := l) (e := l) (by rw [hH]; exact trivial) (.inl rfl) (fun b' u hb hu => (Heap.get?_update_other s.heap (Obj.mapSeq f) (Ne.symm hb)).trans hu) ⟨_,q⟩ ?_
 exact ⟨hz,its',_,hv,q⟩
theorem Inv.lnew {its : List Value} {t' : Nat} (I : Inv X pins σ H s) (hv : Vals ys its) (hz : ys.length <= sizeLine) :
 Inv X pins σ (upd H s.heap.objs.size (.lst ys)) { s with heap := s.heap.push { cls := .type "list",data := .seq its.toArray },toks := t' } :=
 I.laid (fun _ _ q => Heap.get?_push_of_some _ q) (Nat.le_refl _) ⟨hz,its,0,hv,Heap.get?_push_size _ rfl⟩
theorem Inv.fresh (I : Inv X pins σ H s) : H s.heap.objs.size = none := I.hok.fresh (Nat.le_refl _)
theorem Inv.lstM (I : Inv X pins σ H s) (hH : H l = some (.lst xs)) : xs.length <= sizeLine /\ ∃ (its : List Value) (n : Nat),Vals xs its /\ xs.length = its.length /\ s.heap.get? l = some { cls := .type "list",data := .seq its.toArray n } := by
 obtain ⟨z,its,n,r,e⟩ := I.hok l _ hH
 exact ⟨z,its,n,r,r.length,e⟩
end
section
variable {X : Cx}
def Av9 : V -> List V -> Hp -> VK -> Prop := fun x vs H Q => ∃ l xs y,x = .ref l /\ vs = [y] /\ H l = some (.lst xs) /\ xs.length < sizeLine /\ Q .non (upd H l (.lst (xs ++ [y])))
theorem Ce : MtM X "list.append" Av9 := by
 intro pins s σ H x vs v us Q I rx rv h
 obtain ⟨l,xs,y,rfl,rfl,hH,hz,q⟩ := h
 cases rx
 obtain ⟨u,rfl,ru⟩ := rv.one
 obtain ⟨z,its,n,r,hl,e⟩ := I.lstM hH
 refine call_meets F.slot_list_append ⟨_,e,rfl⟩ F.entry_list_append (F.args_list_append_2 _ _) (PySem.list_append l its.toArray n u (by rw [List.size_toArray]; omega)) ⟨e,?_⟩
 refine ⟨.non,_,I.lset (its' := its ++ [u]) hH e (by simp) (r.append (.cons ru .nil)) ?_,rfl,q⟩
 rw [List.length_append,List.length_singleton]
 omega
def A30 : V -> List V -> Hp -> VK -> Prop := fun x vs H Q => ∃ l xs,x = .ref l /\ vs = [] /\ H l = some (.lst xs) /\ Q .non (upd H l (.lst []))
theorem Aq2 : MtM X "list.clear" A30 := by
 intro pins s σ H x vs v us Q I rx rv h
 obtain ⟨l,xs,rfl,rfl,hH,q⟩ := h
 cases rx
 have hus := rv.zero
 subst hus
 obtain ⟨z,its,n,r,hl,e⟩ := I.lstM hH
 refine call_meets F.slot_list_clear ⟨_,e,rfl⟩ F.entry_list_clear (F.args_list_clear_1 _) (AutoSeq1.list_clear_list_0 l its.toArray n (by rw [List.size_toArray]; omega)) ⟨e,?_⟩
 exact ⟨.non,_,I.lset (its' := []) (ys := []) hH e rfl .nil (Nat.zero_le _),rfl,q⟩
end
section
variable {prog : Program} {w : World} {A : Around} {E : Value -> Shared -> Prop} {s : Shared}
end
section
variable {X : Cx}
end
end L2
namespace Att
open PySem PySem.W PySem.Calls PyProof.Rows
theorem Ox {P : Params} {h : Heap} : ∀ (ns : List Int) (vs : List Value),WellAll P h vs (ns.map WData.int) -> IntsAre vs ns := by
 intro ns
 induction ns with
 | nil =>
   intro vs w
   rw [List.map_nil] at w
   cases w
   exact .nil
 | cons n ns ih =>
   intro vs w
   rw [List.map_cons] at w
   cases w with
   | cons a b =>
     cases a
     exact .cons _ _ (ih _ b)
theorem z0 {l : OpenLaw} {n : Nat} (hn : l.most = some n) {P : Params} {h : Heap} {args : List WData} {vals : List Value}
 (hpre : l.row.toRowW.claim.pre args = true) (hwl : WellAll P h vals args) :
 ∃ a vs ns,vals = [Value.ref a] /\ args = [WData.list (ns.map WData.int)] /\ h.get? a = some { cls := .type "list",data := .seq vs.toArray } /\ IntsAre vs ns /\ ns.length <= n := by
 have hsh : WShape.hasAll [] args [.list .int] = true := (pre_splitW hpre).1
 have hc : l.pre.holds [] { args := args } = true := (pre_splitW hpre).2
 obtain ⟨d,r,rfl,h1,h2⟩ := hasAllW_cons hsh
 obtain rfl := hasAllW_nil h2
 obtain ⟨xs,rfl,h3⟩ := hasW_list h1
 obtain ⟨ns,rfl⟩ := items_int h3
 have hlen : ns.length <= n := by
  unfold OpenLaw.pre at hc
  have h4 : (WTm.not (.lt (.lit (.int (n : Int))) (.len (.arg 0)))).holds [] { args := [.list (ns.map .int)] } = true := by
   have h4 := (holds_andW hc).1
   rw [hn] at h4
   exact h4
  have h5 := condW_of h4 (w_not (w_lt w_lit (w_len_list (w_arg rfl))))
  rw [List.length_map] at h5
  refine Nat.le_of_not_lt fun q => ?_
  have q' : (n : Int) < ((ns.length : Nat) : Int) := by omega
  first
   | (rw [decide_eq_true q'] at h5; exact absurd h5 (by decide))
   | (simp at h5; omega)
 cases hwl with
 | cons w1 w2 =>
   cases w2
   cases w1 with
   | list ho hall => exact ⟨_,_,ns,rfl,rfl,ho,Ox ns _ hall,hlen⟩
theorem Aa7 (l : OpenLaw) (args : List WData) : l.row.toRowW.claim.post args (.bool true) args = true :=
 postW_of (r := l.row.toRowW) (X := (true == true))
  (show WShape.has [] (.bool true) .bool = true by first | rfl | decide | simp [WShape.has,WShape.arms,WShape.armsAll])
  (show (WTm.eq .res (.lit (.bool true))).value [] { args := args,res := some (.bool true),after := args } = some (.bool (true == true)) from w_eq_bool (w_res rfl) w_lit) rfl
theorem attach_call {l : OpenLaw} {n : Nat} {q : Program} {loose : List Str} {XP : (Str -> Option Value) -> Heap -> Prop} {YP : World -> Heap -> Prop} {d : DefRec}
 (hn : l.most = some n) (hdf : d.params.defaults = [])
 (call : ∀ (w : World) (s₀ s₁ : Shared) (mg mb : Str -> Option Value) (fa : Addr) (o : Obj) (pm cd doc : Value) (a : Addr) (vs : List Value) (ns : List Int),
   Ground q loose [] XP w s₀ mg mb s₁.heap -> YP w s₁.heap →
   s₁.heap.get? fa = some o -> o.data = .func (docDef d.name d.params d.body d.scope pm cd doc) -> s₁.heap.CodeRec cd d.name -> mg d.name = some (.ref fa) →
   s₁.heap.get? a = some { cls := .type "list",data := .seq vs.toArray } -> IntsAre vs ns -> ns.length <= n -> s₁.gens = #[] →
   codeAny (model l.prog w) callerA (.call (.ref fa) ⟨[.ref a],[]⟩) (fun r s' => r = .ok (.ret (.bool true)) /\ OldK s₁.heap s'.heap /\ s'.os = s₁.os /\ AllBare s'.gens) s₁) :
 WalkO q loose XP YP l.row.toRowW d [] (fun f vs => PySem.call f vs) := by
 intro w s₀ s₁ mg mb G Y fa o pm cd doc dV kV ho hd hcd hD hmg hg args vals as hpre hlay hrd hwl hlo
 obtain rfl : dV = .none := Dflts.none hD hdf
 obtain rfl : kV = .none := Dflts.noKw hD
 obtain ⟨a,vs,ns,rfl,rfl,hobj,hints,hlen⟩ := z0 hn hpre hwl
 refine enter_call (codeAny_mono (call w s₀ s₁ mg mb fa o pm cd doc a vs ns G Y ho (fd_plain hd) hcd hmg hobj hints hlen hg) fun r s' hq => ?_)
 obtain ⟨rfl,h2,h3,h4⟩ := hq
 exact ⟨.inl ⟨.bool true,.bool true,[],rfl,fun _ => rfl,.bool true,Aa7 l _,fun _ => ⟨List.Pairwise.nil,fun _ hm => (nomatch hm)⟩⟩,h2,h3,h4⟩
section
variable {prog : Program} {w : World} {A : Around} {E : Value -> Shared -> Prop} {s : Shared} {K : Frag}
end
end Att
namespace L2
open PySem PySem.Spec PyProof.Rows
theorem Ux : ∀ {vs : List Value} {ns : List Int},IntsAre vs ns -> Vals (ns.map V.int) vs
 | _,_,.nil => .nil
 | _,_,.cons n t h => .cons ⟨t,rfl⟩ (Ux h)
def Only (H : Hp) : Prop := ∀ b,H b = none \/ ∃ o xs,H b = some (.frz o (.lst xs))
theorem Aq7 {P : Program} {w : World} {K : W.Frag} {mg mb : Str -> Option Value} {CX : CXT} {k : Nat} {fa a : Addr} {fd : FuncData} {x : Str} {sp : Sp} {s₁ : Shared} {vs : List Value} {ns : List Int}
 (KX : K.In s₁.heap) (hns : s₁.heap.Ns mainGlobals mg) (hb : s₁.heap.Ns builtinsNs mb) (hbb : ∀ x : Str,x ≠ "__name__" -> mb x = bootBuiltins x) (hlim : s₁.heap.NoLimit) (hg : s₁.gens = #[])
 (ha : s₁.heap.get? a = some { cls := .type "list",data := .seq vs.toArray }) (hi : IntsAre vs ns) (hl : ns.length <= sizeLine) (hr : Room k callerA)
 (F : ∀ base : Heap,K.In base -> base.Ns mainGlobals mg -> FnOk P w K mg base CX k fa fd [x] sp) (hbind : ∀ (s : Shared) (u : Value),BindsTo s fd ⟨[u],[]⟩ [(x,u)])
 (hsp : ∀ H : Hp,Only H -> SqL K H a (ns.map V.int) -> sp [.ref a] H (fun v _ => v = .bl true) fun _ _ _ => False)
 (hCX : ∀ H e s',CX [] H s₁ (fun _ _ _ => False) e s' -> False) :
 codeAny (model P w) callerA (.call (.ref fa) ⟨[.ref a],[]⟩) (fun r s' => r = .ok (.ret (.bool true)) /\ OldK s₁.heap s'.heap /\ s'.os = s₁.os /\ AllBare s'.gens) s₁ := by
 have rv := Ux hi
 have lenV := hi.length
 have core : ∀ H : Hp,Only H -> SqL K H a (ns.map V.int) -> HOk P w H s₁.heap -> (∀ b,H b ≠ none -> b = a) -> (H a ≠ none -> K.lookup a = none) →
  codeAny (model P w) callerA (.call (.ref fa) ⟨[.ref a],[]⟩) (fun r s' => r = .ok (.ret (.bool true)) /\ OldK s₁.heap s'.heap /\ s'.os = s₁.os /\ AllBare s'.gens) s₁ := by
  intro H hO hS hok hA hK
  have base_of : ∀ {b : Addr} {o : Obj},s₁.heap.get? b = some o -> H b = none -> (hidT s₁.heap H).get? b = some o := fun e n => Ar0 e n
  have noA : ∀ {b : Addr} {o : Obj} {es : Array DictEntry} {ep : Nat},s₁.heap.get? b = some o -> o.data = .dict es ep -> H b = none := fun {b o es ep} e d => by
   cases q : H b with
   | none => rfl
   | some u =>
     have e' : b = a := hA b (by rw [q]; simp)
     subst e'
     rw [ha] at e; cases e
     have d' : Data.seq vs.toArray _ = Data.dict es ep := d
     cases d'
  have nsK : ∀ {b : Addr} {m : Str -> Option Value},s₁.heap.Ns b m -> (hidT s₁.heap H).Ns b m := fun {b m} ⟨o,es,ep,e,d,r⟩ => ⟨o,es,ep,base_of e (noA e d),d,r⟩
  have hKb : K.In (hidT s₁.heap H) := fun b o e => base_of (KX b o e) (by
   cases q : H b with
   | none => rfl
   | some u =>
     have e' : b = a := hA b (by rw [q]; simp)
     subst e'
     rw [hK (by rw [q]; simp)] at e; cases e)
  have hM : Mod K mg (hidT s₁.heap H) := ⟨hKb,nsK hns,⟨mb,nsK hb,hbb⟩,let ⟨mc,h1,h2⟩ := hlim; ⟨mc,nsK h1,h2⟩⟩
  have e0 : Env0 P w K mg (hidT s₁.heap H) callerA [] s₁ H := ⟨rfl,hM,fun b o e => Ax9 e,Nat.le_of_eq (Ah1 _ _),trivial,fun b hb => absurd (show b ∈ ([] : List Addr) from hb) (by simp),hok,.of_eq hg⟩
  refine codeAny_mono ((F _ hKb (nsK hns)).run callerA [] s₁ H ⟨[.ref a],[]⟩ [.ref a] [.ref a] _ _ hr e0 (hbind s₁ (.ref a)) (.cons rfl .nil) (hsp H hO hS)) fun r s' h => ?_
  cases r with
  | error e => exact (hCX H e s' h).elim
  | ok fl =>
    cases fl with
    | next => exact False.elim h
    | brk => exact False.elim h
    | cont => exact False.elim h
    | ret u =>
      obtain ⟨v,H',os,bare,un,hok',r',q⟩ := h
      have q' : v = .bl true := q
      subst q'
      obtain rfl : u = Value.bool true := r'
      refine ⟨rfl,OldK.of_keep fun b o e => ?_,os,bare⟩
      cases q : H b with
      | none => exact un.keep b o e q (by intro z; exact absurd (show b ∈ ([] : List Addr) from z) (by simp)) (by simp)
      | some u =>
        rcases hO b with z | ⟨ob,xs,z⟩
        . rw [q] at z; cases z
        . have z2 := un.frzs b ob _ z
          obtain ⟨e1,_⟩ := hok b _ z
          obtain ⟨e2,_⟩ := hok' b _ z2
          rw [e] at e1; cases e1
          exact e2
 cases hk : K.lookup a with
 | some o =>
   have e := KX a o hk
   rw [ha] at e
   cases e
   refine core (fun _ => none) (fun _ => .inl rfl) (.inr ⟨_,vs.toArray,_,hk,rfl,rfl,rfl,by rw [List.size_toArray,lenV]; exact hl,by simpa using rv⟩) (fun b u z => by have z' : (none : Option HO) = some u := z; cases z') (fun b z => absurd rfl z) fun z => absurd rfl z
 | none =>
   refine core (fun b => if b = a then some (.frz { cls := .type "list",data := .seq vs.toArray } (.lst (ns.map V.int))) else none) (fun b => ?_) (.inl (.inr ⟨{ cls := .type "list",data := .seq vs.toArray },if_pos rfl⟩)) (fun b u z => ?_) (fun b z => ?_) fun _ => hk
   . by_cases hb : b = a
     . exact .inr ⟨_,_,if_pos hb⟩
     . exact .inl (if_neg hb)
   . by_cases hb : b = a
     . have z' := (if_pos hb).symm.trans z
       cases z'
       subst hb
       exact ⟨ha,by rw [List.length_map]; exact hl,vs,_,rv,ha⟩
     . have z' := (if_neg hb).symm.trans z
       cases z'
   . by_cases hb : b = a
     . exact hb
     . exact absurd (if_neg hb) z
end L2
namespace L2
open PySem PySem.Spec PyProof.Rows
theorem walk_of {l : PySem.W.OpenLaw} {n k : Nat} {q : Program} {loose : List Str} {XP : (Str -> Option Value) -> Heap -> Prop} {YP : World -> Heap -> Prop} {d : DefRec} {K : Params -> PySem.W.Frag} {CX : World -> CXT} {sp : World -> Sp} {x : Str}
 (hn : l.most = some n) (hn2 : n <= sizeLine) (hdf : d.params.defaults = []) (hr : Room k callerA)
 (hY : ∀ (w : World) (h : Heap),YP w h -> (K w.params).In h)
 (F : ∀ (w : World) (mg : Str -> Option Value) (fa : Addr) (h : Heap),(K w.params).In h -> h.Ns mainGlobals mg -> mg d.name = some (.ref fa) →
   ∃ fd : FuncData,(∀ (s : Shared) (u : Value),BindsTo s fd ⟨[u],[]⟩ [(x,u)]) ∧
     ∀ base : Heap,(K w.params).In base -> base.Ns mainGlobals mg -> FnOk l.prog w (K w.params) mg base (CX w) k fa fd [x] (sp w))
 (hsp : ∀ (w : World) (H : Hp) (a : Addr) (ns : List Int),ns.length <= n -> Only H -> SqL (K w.params) H a (ns.map V.int) -> sp w [.ref a] H (fun v _ => v = .bl true) fun _ _ _ => False)
 (hCX : ∀ (w : World) (H : Hp) (s : Shared) (e : Value) (s' : Shared),CX w [] H s (fun _ _ _ => False) e s' -> False) :
 PySem.W.WalkO q loose XP YP l.row.toRowW d [] (fun f vs => PySem.call f vs) := by
 refine Att.attach_call hn hdf fun w s₀ s₁ mg mb fa o pm cd doc a vs ns G Y ho hd hcd hmg hobj hints hlen hg => ?_
 have KX := hY w _ Y
 obtain ⟨fd,hb,hF⟩ := F w mg fa _ KX G.T.g hmg
 exact Aq7 KX G.T.g G.T.b G.T.builtins G.T.nolimit hg hobj hints (Nat.le_trans hlen hn2) hr hF hb (fun H hO hS => hsp w H a ns hlen hO hS) fun H e s' => hCX w H s₁ e s'
end L2
namespace L2
open PySem PySem.Spec PyProof.Rows
def Oy (s : Stmt) (j : Nat) : Stmt := match s with
 | .ClassDef _ _ _ body _ _ _ _ _ _ _ => body.getD j (.Pass ⟨0,0,0,0⟩)
 | _ => .Pass ⟨0,0,0,0⟩
def Av (s : Stmt) : Arguments := match s with
 | .FunctionDef _ a _ _ _ _ _ _ _ _ => a
 | _ => { posonlyargs := [],args := [],vararg := none,kwonlyargs := [],kw_defaults := [],kwarg := none,defaults := [] }
def At (s : Stmt) : List Stmt := match s with
 | .FunctionDef _ _ b _ _ _ _ _ _ _ => b
 | _ => []
def Af (s : Stmt) : Scope := match s with
 | .FunctionDef _ _ _ _ _ _ sc _ _ _ => sc
 | _ => { kind := .function,names := [],isGenerator := false,isCoroutine := false }
abbrev CX0 : CXT := fun _ _ _ _ _ _ => False
abbrev E0 : XK := fun _ _ _ => False
theorem Ab8 {X : Cx} : M4 CX0 X E0 := fun _ _ _ _ _ _ _ h => h.elim
structure Fun (K : W.Frag) (x qual : Str) (st : Stmt) (f : Addr) (fd : FuncData) : Prop where
 ex : ∃ (oc : Value) (od : Option Addr) (kV doc pm : Value) (an : Option Addr) (cdv ct : Value) (osl : Array (Option Value)),
  fd = PySem.W.fnOf x qual (Av st) (At st) (Af st) .none kV doc pm an cdv ct /\ K.lookup f = some ⟨oc,od,.func fd,osl⟩ /\ PySem.W.codeIn K cdv qual = true
 kp : PySem.W.keepIn K (.ref f) = true
section
variable {P : Program} {w : World} {K : W.Frag} {mg : Str -> Option Value} {base : Heap}
theorem Fun.ok {x qual : Str} {st : Stmt} {f : Addr} {fd : FuncData} {N ps : List Str} {k : Nat} {sp : Sp} (F : Fun K x qual st f fd) (S : FnScope N ps (Af st)) (len : ∀ vs H Q E,sp vs H Q E -> vs.length = ps.length)
 (hbody : ∀ (cdv : Value) (A : Around) (outer : List Env) (s : Shared) (H : Hp) (vs : List V) (Q : VK) (E : XK),Room k (A.deeper (envOfC qual (Af st) s.heap.objs.size f cdv)) -> sp vs H Q E →
   ∃ t,PSs (cxOf CX0 P w K mg base N qual (Af st) f cdv A outer s H E).nox (At st) t /\ t { nx := fun _ H' => Q .non H',rt := Q } (start N vs) H) : FnOk P w K mg base CX0 (k + 1) f fd ps sp := by
 obtain ⟨oc,od,kV,doc,pm,an,cdv,ct,osl,rfl,lk,hcd⟩ := F.ex
 refine A74 lk hcd S len fun A outer s H vs Q E hr hsp => ?_
 obtain ⟨t,h,q⟩ := hbody cdv A outer s H vs Q E hr hsp
 exact ⟨t,h.nox,q⟩
theorem Fun.binds {x qual : Str} {st : Stmt} {f : Addr} {fd : FuncData} {ps : List Str} (F : Fun K x qual st f fd)
 (h : ∀ (kV doc pm : Value) (an : Option Addr) (cdv ct : Value) (us : List Value),us.length = ps.length -> bindArgs (PySem.W.fnOf x qual (Av st) (At st) (Af st) .none kV doc pm an cdv ct) ⟨us,[]⟩ = pure (ps.zip us)) : J4 K fd ps [] := by
 obtain ⟨oc,od,kV,doc,pm,an,cdv,ct,osl,rfl,lk,hcd⟩ := F.ex
 exact .all (h kV doc pm an cdv ct)
theorem A5 {x qual : Str} {st : Stmt} {f : Addr} {oc : Value} {od an : Option Addr} {osl : Array (Option Value)} {kV doc pm cdv ct : Value} (l : K.lookup f = some ⟨oc,od,.func (PySem.W.fnOf x qual (Av st) (At st) (Af st) .none kV doc pm an cdv ct),osl⟩)
 (c : PySem.W.codeIn K cdv qual = true) (k : PySem.W.keepIn K (.ref f) = true) : Fun K x qual st f (PySem.W.fnOf x qual (Av st) (At st) (Af st) .none kV doc pm an cdv ct) := ⟨⟨oc,od,kV,doc,pm,an,cdv,ct,osl,rfl,l,c⟩,k⟩
end
section
variable {X : Cx}
theorem pv (i : Nat) {x : Str} {pos : Pos} (hN : X.N[i]? = some x := by rfl) (hv : Vis X.env.scope x := by first | exact Or.inl rfl | exact Or.inr (Or.inl rfl) | exact Or.inr (Or.inr rfl)) (hd : (x == ("__debug__" : Str)) = false := by decide)
 (hcd : (x == ("__classdict__" : Str)) = false := by decide) : PE X (.Name x pos) (tVar i) := A37 hN hv hd hcd
end
theorem ite2 {c A B : Prop} [Decidable c] (h1 : c -> A) (h2 : ¬ c -> B) : if c then A else B := by
 by_cases h : c
 . rw [if_pos h]
   exact h1 h
 . rw [if_neg h]
   exact h2 h
def Same (H H' : Hp) : Prop := ∀ b o,H b = some o -> H' b = some o
theorem Same.refl (H : Hp) : Same H H := fun _ _ h => h
theorem Same.trans {H H1 H2 : Hp} (a : Same H H1) (b : Same H1 H2) : Same H H2 := fun c o h => b c o (a c o h)
theorem Same.free {H H' : Hp} (e : Same H H') {l : Addr} (h : H' l = Option.none) : H l = Option.none := by
 cases q : H l with
 | none => rfl
 | some o =>
   rw [e l o q] at h
   cases h
theorem Same.seq {K : W.Frag} {H H' : Hp} {a : Addr} {xs : List V} (e : Same H H') (h : SqL K H a xs) : SqL K H' a xs := by
 rcases h with (h | ⟨o,h⟩) | h
 . exact .inl (.inl (e _ _ h))
 . exact .inl (.inr ⟨o,e _ _ h⟩)
 . exact .inr h
end L2
namespace L2
open PySem PySem.Spec PyProof.Rows
section
variable {κ : Type} [DecidableEq κ]
def valV (kvs : List (κ × V)) (k : κ) : Option V := (kvs.find? fun kv => decide (kv.1 = k)).map (·.2)
def putK (kvs : List (κ × V)) (k : κ) (v : V) : List (κ × V) :=
 if (kvs.any fun kv => decide (kv.1 = k)) = true then kvs.map (fun kv => if kv.1 = k then (kv.1,v) else kv) else kvs ++ [(k,v)]
def V5 (kvs : List (κ × V)) (k : κ) : List (κ × V) := kvs.filter fun kv => decide (kv.1 ≠ k)
theorem Sq {p : κ × V} {r : List (κ × V)} {k : κ} (e : p.1 = k) : valV (p :: r) k = some p.2 := by simp [valV,List.find?_cons,e]
theorem Sr {p : κ × V} {r : List (κ × V)} {k : κ} (e : ¬ p.1 = k) : valV (p :: r) k = valV r k := by simp [valV,List.find?_cons,e]
theorem Yz (k : κ) : ∀ kvs : List (κ × V),(kvs.any fun kv => decide (kv.1 = k)) = (valV kvs k).isSome
 | [] => rfl
 | p :: r => by
   rw [List.any_cons]
   by_cases e : p.1 = k
   . simp only [Sq e,decide_eq_true e,Bool.true_or,Option.isSome_some]
   . rw [Sr e,decide_eq_false e,Bool.false_or]; exact Yz k r
theorem Jt (kvs : List (κ × V)) (k : κ) (v : V) : (putK kvs k v).length <= kvs.length + 1 := by
 unfold putK
 split
 . rw [List.length_map]; omega
 . rw [List.length_append,List.length_cons,List.length_nil]; omega
theorem RelO.isSome_eq {o : Option V} {u : Option Value} (r : RelO o u) : o.isSome = u.isSome := by
 cases o with
 | none => cases u with
   | none => rfl
   | some _ => exact (show False from r).elim
 | some _ => cases u with
   | none => exact (show False from r).elim
   | some _ => rfl
theorem RelO.getD {o : Option V} {u : Option Value} {d : V} {d' : Value} (r : RelO o u) (rd : RelV d d') : RelV (o.getD d) (u.getD d') := by
 cases o with
 | none => cases u with
   | none => exact rd
   | some _ => exact (show False from r).elim
 | some _ => cases u with
   | none => exact (show False from r).elim
   | some _ => exact r
theorem KV.val {kvs : List (κ × V)} {vs : List (κ × Value)} (r : KV kvs vs) (k : κ) : RelO (valV kvs k) (valueAt vs k) := by
 unfold KV at r
 induction r with
 | nil => exact True.intro
 | @cons p q ps qs h t ih =>
   obtain ⟨h1,h2⟩ := h
   by_cases e : p.1 = k
   . have e' : q.1 = k := h1.symm.trans e
     have b : valueAt (q :: qs) k = some q.2 := by simp [valueAt,List.find?_cons,e']
     rw [Sq e,b]; exact h2
   . have e' : ¬ q.1 = k := fun z => e (h1.trans z)
     have b : valueAt (q :: qs) k = valueAt qs k := by simp [valueAt,List.find?_cons,e']
     rw [Sr e,b]; exact ih
theorem KV.any {kvs : List (κ × V)} {vs : List (κ × Value)} (r : KV kvs vs) (k : κ) : (kvs.any fun kv => decide (kv.1 = k)) = vs.any fun kv => decide (kv.1 = k) := by
 unfold KV at r
 induction r with
 | nil => rfl
 | cons h t ih => rw [List.any_cons,List.any_cons,ih,h.1]
theorem KV.repl {kvs : List (κ × V)} {vs : List (κ × Value)} (r : KV kvs vs) (k : κ) {y : V} {u : Value} (ry : RelV y u) :
 KV (kvs.map fun kv => if kv.1 = k then (kv.1,y) else kv) (vs.map fun kv => if kv.1 = k then (kv.1,u) else kv) := by
 unfold KV at r ⊢
 induction r with
 | nil => exact .nil
 | @cons p q ps qs h t ih =>
   rw [List.map_cons,List.map_cons]
   refine .cons ?_ ih
   obtain ⟨h1,h2⟩ := h
   by_cases e : p.1 = k
   . rw [if_pos e,if_pos (h1.symm.trans e)]; exact ⟨h1,ry⟩
   . rw [if_neg e,if_neg (fun z => e (h1.trans z))]; exact ⟨h1,h2⟩
theorem KV.put {kvs : List (κ × V)} {vs : List (κ × Value)} (r : KV kvs vs) (k : κ) {y : V} {u : Value} (ry : RelV y u) : KV (putK kvs k y) (stored vs k u) := by
 unfold putK stored
 rw [r.any k]
 by_cases e : (vs.any fun kv => decide (kv.1 = k)) = true
 . rw [if_pos e,if_pos e]; exact r.repl k ry
 . rw [if_neg e,if_neg e]; exact Paired.snoc r ⟨rfl,ry⟩
theorem KV.drop {kvs : List (κ × V)} {vs : List (κ × Value)} (r : KV kvs vs) (k : κ) : KV (V5 kvs k) (without vs k) := by
 unfold KV at r ⊢
 unfold V5 without
 induction r with
 | nil => exact .nil
 | @cons p q ps qs h t ih =>
   obtain ⟨h1,h2⟩ := h
   rw [List.filter_cons,List.filter_cons]
   by_cases e : p.1 = k
   . have a : ¬ decide (p.1 ≠ k) = true := by simp [e]
     have b : ¬ decide (q.1 ≠ k) = true := by simp [h1.symm.trans e]
     rw [if_neg a,if_neg b]; exact ih
   . have e' : ¬ q.1 = k := fun z => e (h1.trans z)
     have a : decide (p.1 ≠ k) = true := by simp [e]
     have b : decide (q.1 ≠ k) = true := by simp [e']
     rw [if_pos a,if_pos b]; exact .cons ⟨h1,h2⟩ ih
theorem KV.keys {kvs : List (κ × V)} {vs : List (κ × Value)} (r : KV kvs vs) : kvs.map (·.1) = vs.map (·.1) := by
 unfold KV at r
 induction r with
 | nil => rfl
 | cons h t ih => rw [List.map_cons,List.map_cons,ih,h.1]
theorem KV.length {kvs : List (κ × V)} {vs : List (κ × Value)} (r : KV kvs vs) : kvs.length = vs.length := Paired.length r
theorem Zi (kvs : List (κ × V)) (k : κ) : (V5 kvs k).length <= kvs.length := List.length_filter_le _ _
end
theorem kV_is {P : Program} {w : World} {k : Key} {u : Value} (r : RelV (kV k) u) : (mixKind P w).is k u = true := by
 cases k with
 | inl i => obtain ⟨t,e⟩ := (show ∃ t,u = Value.int i t from r); subst e; exact X4 P w i t
 | inr x => obtain ⟨t,e⟩ := (show ∃ t,u = Value.str x t from r); subst e; exact X3 P w x t
theorem Vy {P : Program} {w : World} : ∀ {ks : List Key} {us : List Value},Vals (ks.map kV) us -> ItemsAre (mixKind P w) ks us
 | [],_,r => by rw [List.map_nil] at r; cases r; exact .nil
 | k :: ks,_,r => by
   rw [List.map_cons] at r
   cases r with
   | cons h t => exact .cons (kV_is h) (Vy t)
abbrev KT (H : Hp) : List (List Key × V) -> List (List Key × Addr × Value) -> Prop := Paired fun p q => p.1 = q.1 /\ H q.2.1 = some (.tup (p.1.map kV)) /\ RelV p.2 q.2.2
theorem KT.val {H : Hp} {kvs : List (List Key × V)} {xs : List (List Key × Addr × Value)} (r : KT H kvs xs) (k : List Key) : RelO (valV kvs k) ((atKey xs k).map (·.2)) := by
 induction r with
 | nil => exact True.intro
 | @cons p q ps qs h t ih =>
   obtain ⟨h1,_,h2⟩ := h
   by_cases e : p.1 = k
   . have e' : q.1 = k := h1.symm.trans e
     have b : atKey (q :: qs) k = some q.2 := by simp [atKey,List.find?_cons,e']
     rw [Sq e,b]; exact h2
   . have e' : ¬ q.1 = k := fun z => e (h1.trans z)
     have b : atKey (q :: qs) k = atKey qs k := by simp [atKey,List.find?_cons,e']
     rw [Sr e,b]; exact ih
theorem KT.repl {H : Hp} {kvs : List (List Key × V)} {xs : List (List Key × Addr × Value)} (r : KT H kvs xs) (k : List Key) {y : V} {u : Value} (ry : RelV y u) :
 KT H (kvs.map fun kv => if kv.1 = k then (kv.1,y) else kv) (xs.map (putAt k u)) := by
 induction r with
 | nil => exact .nil
 | @cons p q ps qs h t ih =>
   rw [List.map_cons,List.map_cons]
   refine .cons ?_ ih
   obtain ⟨h1,h2,h3⟩ := h
   unfold putAt
   by_cases e : p.1 = k
   . rw [if_pos e,if_pos (h1.symm.trans e)]; exact ⟨h1,h2,ry⟩
   . rw [if_neg e,if_neg (fun z => e (h1.trans z))]; exact ⟨h1,h2,h3⟩
theorem KT.put {H : Hp} {kvs : List (List Key × V)} {xs : List (List Key × Addr × Value)} (r : KT H kvs xs) (k : List Key) {b : Addr} {y : V} {u : Value} (hb : H b = some (.tup (k.map kV))) (ry : RelV y u) :
 KT H (putK kvs k y) (storedH xs k b u) := by
 have e : (kvs.any fun kv => decide (kv.1 = k)) = (atKey xs k).isSome := by
  rw [Yz,(r.val k).isSome_eq,Option.isSome_map]
 unfold putK storedH
 rw [e]
 by_cases q : (atKey xs k).isSome = true
 . rw [if_pos q,if_pos q]; exact r.repl k ry
 . rw [if_neg q,if_neg q]; exact Paired.snoc r ⟨rfl,hb,ry⟩
theorem KT.keeps {H H' : Hp} {kvs : List (List Key × V)} {xs : List (List Key × Addr × Value)} (r : KT H kvs xs) (ht : ∀ b ys,H b = some (.tup ys) -> H' b = some (.tup ys)) : KT H' kvs xs :=
 Paired.mapP r fun _ _ z => ⟨z.1,ht _ _ z.2.1,z.2.2⟩
section
variable {P : Program} {w : World} {H : Hp} {h : Heap} {a : Addr}
theorem A28 {u : HO} (ok : HOk P w H h) (e : Rd H a u) : ObjOk P w H h a u := e.ok ok
theorem Nc {kvs : List (Key × V)} (ok : HOk P w H h) (e : Rd H a (.dK kvs)) : kvs.length <= sizeLine /\ (a == sysModules) = false /\ ∃ vs,KV kvs vs /\ h.DictOf (mixKind P w) a vs :=
 show ObjOk P w H h a (.dK kvs) from A28 ok e
theorem l7 {kvs : List (Key × V)} (ok : HOk P w H h) (e : H a = some (.dK kvs)) : kvs.length <= sizeLine /\ (a == sysModules) = false /\ ∃ vs,KV kvs vs /\ h.DictOf (mixKind P w) a vs := Nc ok (.inl e)
theorem Rv {ks : List Key} (ok : HOk P w H h) (e : H a = some (.tup (ks.map kV))) : (tupleKind (mixKind P w)).is h ks a := by
 obtain ⟨_,its,r,o,h1,h2,_,n,h3⟩ := (show ObjOk P w H h a (.tup (ks.map kV)) from ok a _ e)
 exact ⟨o,its.toArray,n,h1,h2,h3,by simpa using Vy r⟩
theorem Yk {kvs : List (List Key × V)} (ok : HOk P w H h) (e : Rd H a (.dT kvs)) : kvs.length <= sizeLine /\ (a == sysModules) = false ∧
 ∃ xs,KT H kvs xs /\ h.DictOfH (tupleKind (mixKind P w)) a xs := by
 obtain ⟨z,y,xs,r,o,es,ep,h1,h2,h3,h4,h5⟩ := (show ObjOk P w H h a (.dT kvs) from A28 ok e)
 refine ⟨z,y,xs,r,o,es,ep,h1,h2,h3,h4,fun x hx => ?_,h5⟩
 have all : ∀ {l : List (List Key × V)} {m : List (List Key × Addr × Value)},KT H l m -> ∀ x ∈ m,(tupleKind (mixKind P w)).is h x.1 x.2.1 := by
  intro l m q
  induction q with
  | nil => intro x hx; exact nomatch hx
  | @cons p q ps qs hq t ih =>
    intro x hx
    rcases List.mem_cons.mp hx with e | hx
    . subst e
      exact Rv ok (by rw [← hq.1]; exact hq.2.1)
    . exact ih x hx
 exact all r x hx
theorem Ba8 {kvs : List (List Key × V)} (ok : HOk P w H h) (e : H a = some (.dT kvs)) : kvs.length <= sizeLine /\ (a == sysModules) = false ∧
 ∃ xs,KT H kvs xs /\ h.DictOfH (tupleKind (mixKind P w)) a xs := Yk ok (.inl e)
end
def DGet (H : Hp) (a : Addr) (y : V) (r : Option V) : Prop :=
 (∃ kvs k,Rd H a (.dK kvs) /\ y = kV k /\ r = valV kvs k) \/ ∃ kvs k b,Rd H a (.dT kvs) /\ y = .ref b /\ H b = some (.tup (k.map kV)) /\ r = valV kvs k
def DPut (H : Hp) (a : Addr) (y v : V) (H' : Hp) : Prop :=
 (∃ kvs k,H a = some (.dK kvs) /\ y = kV k /\ kvs.length < sizeLine /\ H' = upd H a (.dK (putK kvs k v))) ∨
 ∃ kvs k b,H a = some (.dT kvs) /\ y = .ref b /\ H b = some (.tup (k.map kV)) /\ kvs.length < sizeLine /\ H' = upd H a (.dT (putK kvs k v))
theorem DGet.k {H : Hp} {a : Addr} {kvs : List (Key × V)} {k : Key} (e : H a = some (.dK kvs)) : DGet H a (kV k) (valV kvs k) := .inl ⟨kvs,k,.inl e,rfl,rfl⟩
section
variable {X : Cx} {pins : List (Addr × Obj)} {σ : St} {H : Hp} {s : Shared} {a : Addr} {y v : V} {u r : Value} {o : Option V} {A : Around} {E : Value -> Shared -> Prop}
theorem Inv.big (I : Inv X pins σ H s) : sysModules < s.heap.objs.size := by
 have h : mainGlobals < s.heap.objs.size := (I.mod.glob.keeps I.bk).lt
 exact Nat.lt_trans (by decide) h
theorem Aj8 {Q : Value -> Shared -> Prop} (hu : A.units + 1 < cLine) (I : Inv X pins σ H s) (g : DGet H a y (some v)) (ry : RelV y u) (h : ∀ w' s',Inv X pins σ H s' -> RelV v w' -> Q w' s') :
 wpAny (model X.prog X.w) A (getItem (.ref a) u) Q E s := by
 rcases g with ⟨kvs,k,e,ey,l⟩ | ⟨kvs,k,b,e,ey,eb,l⟩
 . subst ey
   obtain ⟨z,hd,vs,rel,dd⟩ := Nc I.hok e
   obtain ⟨w',hw,rw'⟩ := RelO.some_of (v := v) (o := valueAt vs k) (by rw [l]; exact rel.val k)
   exact wpAny_getItem_of (kV_is ry) dd.mapOf hw (h w' _ (I.tok _) rw')
 . subst ey
   cases (show u = Value.ref b from ry)
   obtain ⟨z,hd,xs,rel,dd⟩ := Yk I.hok e
   obtain ⟨w',hw,rw'⟩ := RelO.some_of (v := v) (o := (atKey xs k).map (·.2)) (by rw [l]; exact rel.val k)
   obtain ⟨p,hp,hp2⟩ := Option.map_eq_some_iff.mp hw
   refine wpAny_getItem_heap (tupleKind_room_in1 hu) (Rv I.hok eb) dd hp ?_
   rw [hp2]
   exact h w' _ (I.tok _) rw'
theorem d_in {Q : Value -> Shared -> Prop} (hu : A.units + 1 < cLine) (I : Inv X pins σ H s) (g : DGet H a y o) (ry : RelV y u) (h : ∀ s',Inv X pins σ H s' -> Q (.bool o.isSome) s') :
 wpAny (model X.prog X.w) A (compareOp .In u (.ref a)) Q E s := by
 rcases g with ⟨kvs,k,e,ey,l⟩ | ⟨kvs,k,b,e,ey,eb,l⟩
 . subst ey
   obtain ⟨z,hd,vs,rel,dd⟩ := Nc I.hok e
   refine wpAny_in_of (kV_is ry) hd dd.mapOf ?_
   rw [← (rel.val k).isSome_eq,← l]
   exact h _ (I.tok _)
 . subst ey
   cases (show u = Value.ref b from ry)
   obtain ⟨z,hd,xs,rel,dd⟩ := Yk I.hok e
   refine wpAny_in_heap (tupleKind_room_in1 hu) (Rv I.hok eb) hd dd ?_
   have q := (rel.val k).isSome_eq
   rw [Option.isSome_map] at q
   rw [← q,← l]
   exact h _ (I.tok _)
theorem Mi {h' : Heap} {t' : Nat} {ob : HO} (I : Inv X pins σ H s) (mu : Mut (H a)) (hs : Heap.SameBut a s.heap h') (he : ∃ q,h'.get? a = some q) (new : ObjOk X.prog X.w (upd H a ob) h' a ob) :
 Inv X pins σ (upd H a ob) { s with heap := h',toks := t' } :=
 I.write (x := a) (e := a) mu (.inl rfl) (fun b q hb z => (hs.2 b hb).trans z) he new
theorem Pb {P : Program} {w : World} {H' : Hp} {h' : Heap} {kvs : List (Key × V)} {vs : List (Key × Value)} (z : kvs.length <= sizeLine) (hd : (a == sysModules) = false) (rel : KV kvs vs) (dd : h'.DictOf (mixKind P w) a vs) :
 ObjOk P w H' h' a (.dK kvs) := ⟨z,hd,vs,rel,dd⟩
theorem Aj7 {H' : Hp} {Q : Unit -> Shared -> Prop} (hu : A.units + 1 < cLine) (I : Inv X pins σ H s) (g : DPut H a y v H') (ry : RelV y u) (rv : RelV v r) (h : ∀ s',Inv X pins σ H' s' -> Q () s') :
 wpAny (model X.prog X.w) A (setItem (.ref a) u r) Q E s := by
 rcases g with ⟨kvs,k,e,ey,l,eH⟩ | ⟨kvs,k,b,e,ey,eb,l,eH⟩
 . subst ey eH
   obtain ⟨z,hd,vs,rel,dd⟩ := l7 I.hok e
   have hz : vs.length <= sizeLine := by rw [← rel.length]; exact z
   have hl : (putK kvs k v).length <= sizeLine := by have := Jt kvs k v; omega
   refine wpAny_setItem_pairs (hsz := hz) (kV_is ry) dd fun h' dd' hs => h _ ?_
   have he : ∃ q,h'.get? a = some q := let ⟨q,_,_,hq,_⟩ := dd'; ⟨q,hq⟩
   exact Mi I (by rw [e]; exact True.intro) hs he (Pb hl hd (rel.put k rv) dd')
 . subst ey eH
   cases (show u = Value.ref b from ry)
   obtain ⟨z,hd,xs,rel,dd⟩ := Ba8 I.hok e
   have hz : xs.length <= sizeLine := by rw [← Paired.length rel]; exact z
   have hl : (putK kvs k v).length <= sizeLine := by have := Jt kvs k v; omega
   refine wpAny_setItem_heap (hsz := hz) (tupleKind_room_in1 hu) (Rv I.hok eb) dd fun h' dd' hs => h _ ?_
   obtain ⟨q,es,ep,hq,h2,h3,h4,_,h5⟩ := dd'
   refine Mi I (by rw [e]; exact True.intro) hs ⟨q,hq⟩ ⟨hl,hd,_,(rel.put k eb rv).keeps fun c ys ec => ?_,q,es,ep,hq,h2,h3,h4,h5⟩
   rw [Ae (F3 ec e (fun z => nomatch z))]
   exact ec
end
section
variable {X : Cx} {pins : List (Addr × Obj)} {σ : St} {H : Hp} {s : Shared} {a : Addr} {kvs : List (Key × V)} {k : Key} {u : Value} {A : Around} {E : Value -> Shared -> Prop}
theorem A78 {Q : Unit -> Shared -> Prop} (I : Inv X pins σ H s) (e : H a = some (.dK kvs)) (ry : RelV (kV k) u) (l : (valV kvs k).isSome = true) (h : ∀ s',Inv X pins σ (upd H a (.dK (V5 kvs k))) s' -> Q () s') :
 wpAny (model X.prog X.w) A (delItem (.ref a) u) Q E s := by
 obtain ⟨z,hd,vs,rel,dd⟩ := l7 I.hok e
 refine wpAny_delItem_slot dd.typeIs (by decide) PySem.F.slot_dict_delitem
  (call_meetsIn PySem.F.slot_dict_delitem dd.typeIs PySem.F.entry_dict_delitem (PySem.F.args_dict_delitem_2 _ _) (meets_dict_delitem_pairs (mixKind X.prog X.w) a (kV_is ry)) ⟨vs,dd,by rw [← rel.length]; exact z,by rw [← (rel.val k).isSome_eq]; exact l,fun h' dd' hs => h _ ?_⟩)
 have he : ∃ q,h'.get? a = some q := let ⟨q,_,_,hq,_⟩ := dd'; ⟨q,hq⟩
 exact Mi I (by rw [e]; exact True.intro) hs he (Pb (Nat.le_trans (Zi kvs k) z) hd (rel.drop k) dd')
theorem Ba9 {v : V} {more : List Value} {Q : Value -> Shared -> Prop} (I : Inv X pins σ H s) (e : H a = some (.dK kvs)) (ry : RelV (kV k) u) (l : valV kvs k = some v) (hm : more = [] \/ ∃ x,more = [x])
 (h : ∀ w' s',Inv X pins σ (upd H a (.dK (V5 kvs k))) s' -> RelV v w' -> Q w' s') : wpAny (model X.prog X.w) A (call (.builtin "dict.pop") (.ref a :: u :: more)) Q E s := by
 obtain ⟨z,hd,vs,rel,dd⟩ := l7 I.hok e
 obtain ⟨w',hw,rw'⟩ := RelO.some_of (v := v) (o := valueAt vs k) (by rw [← l]; exact rel.val k)
 have hp : (keyPart u).isSome = true := by
  cases k with
  | inl i => obtain ⟨t,q⟩ := (show ∃ t,u = Value.int i t from ry); subst q; rfl
  | inr x => obtain ⟨t,q⟩ := (show ∃ t,u = Value.str x t from ry); subst q; rfl
 have ha : argsOk "dict.pop" ⟨.ref a :: u :: more,[]⟩ := by
  rcases hm with q | ⟨x,q⟩
  . subst q; exact PySem.F.args_dict_pop_2 _ _
  . subst q; exact PySem.F.args_dict_pop_3 _ _ _
 refine call_meetsIn PySem.F.slot_dict_pop dd.typeIs PySem.F.entry_dict_pop ha (meets_dict_pop_there (mixKind X.prog X.w) a (kV_is ry) more hm hp)
  ⟨vs,w',dd,by rw [← rel.length]; exact z,hw,fun h' dd' hs => h w' _ ?_ rw'⟩
 have he : ∃ q,h'.get? a = some q := let ⟨q,_,_,hq,_⟩ := dd'; ⟨q,hq⟩
 exact Mi I (by rw [e]; exact True.intro) hs he (Pb (Nat.le_trans (Zi kvs k) z) hd (rel.drop k) dd')
theorem A75 {r : Value} {Q : Value -> Shared -> Prop} (I : Inv X pins σ H s) (e : H a = some (.dK kvs)) (ry : RelV (kV k) u) (l : valV kvs k = none) (h : ∀ s',Inv X pins σ H s' -> Q r s') :
 wpAny (model X.prog X.w) A (call (.builtin "dict.pop") [.ref a,u,r]) Q E s := by
 obtain ⟨z,hd,vs,rel,dd⟩ := l7 I.hok e
 have hn : valueAt vs k = none := RelO.none_of (by rw [← l]; exact rel.val k)
 have hp : (keyPart u).isSome = true := by
  cases k with
  | inl i => obtain ⟨t,q⟩ := (show ∃ t,u = Value.int i t from ry); subst q; rfl
  | inr x => obtain ⟨t,q⟩ := (show ∃ t,u = Value.str x t from ry); subst q; rfl
 exact call_meetsIn PySem.F.slot_dict_pop dd.typeIs PySem.F.entry_dict_pop (PySem.F.args_dict_pop_3 _ _ _) (meets_dict_pop_default (mixKind X.prog X.w) a (kV_is ry) hd hp r) ⟨vs,dd,hn,h _ (I.tok _)⟩
theorem A06 {Q : Value -> Shared -> Prop} (I : Inv X pins σ H s) (e : H a = some (.dK kvs)) (h : ∀ s',Inv X pins σ (upd H a (.dK [])) s' -> Q .none s') : wpAny (model X.prog X.w) A (call (.builtin "dict.clear") [.ref a]) Q E s := by
 obtain ⟨z,hd,vs,rel,dd⟩ := l7 I.hok e
 refine call_meetsIn PySem.F.slot_dict_clear dd.typeIs PySem.F.entry_dict_clear (PySem.F.args_dict_clear_1 _) (meets_dict_clear (mixKind X.prog X.w) a) ⟨vs,dd,by rw [← rel.length]; exact z,fun h' dd' hs => h _ ?_⟩
 have he : ∃ q,h'.get? a = some q := let ⟨q,_,_,hq,_⟩ := dd'; ⟨q,hq⟩
 exact Mi (t' := s.toks) I (by rw [e]; exact True.intro) hs he (Pb (Nat.zero_le _) hd .nil dd')
theorem Bb0 {Q : Value -> Shared -> Prop} (I : Inv X pins σ H s) (e : Rd H a (.dK kvs)) (h : ∀ t s',Inv X pins σ H s' -> Q (.int kvs.length t) s') : wpAny (model X.prog X.w) A (call (.builtin "len") [.ref a]) Q E s := by
 obtain ⟨z,hd,vs,rel,dd⟩ := Nc I.hok e
 refine call_len_dict hd dd (by rw [← rel.length]; rw [sizeLine_eq] at z; omega) ?_
 rw [← rel.length]
 exact h _ _ (I.tok _)
end
def NoSl (i : Expr) : Prop := ∀ ov iv,subscripted i false ov iv = operate [ov,iv] (getItem ov iv)
theorem Av1 {prog : Program} {w : World} {A : Around} {E : Value -> Shared -> Prop} {s : Shared} {env : Env} {value slice : Expr} {pos : Pos} {T id : String} {Q : Value -> Shared -> Prop}
 (hl : typeLookup (.type T) "__getitem__" = pure (some (.builtin id))) (hs : NoSl slice)
 (h : wpAny (model prog w) A (eval value env) (fun o s₁ => wpAny (model prog w) A (eval slice env) (fun i s₂ => s₂.TypeIs o T /\ wpAny (model prog w) A (getItem o i) Q E s₂) E s₁) E s) :
 wpAny (model prog w) A (eval (.Subscript value slice pos) env) Q E s := by
 refine Subscript_ (wpAny_mono h (fun o s₁ h₁ => wpAny_mono h₁ (fun i s₂ h₂ => ?_) fun _ _ x => x) fun _ _ x => x)
 obtain ⟨hT,h₂⟩ := h₂
 unfold subscriptTail
 refine wpAny_bind ?_
 rw [getitemInPython_of_ne hT.not_modules]
 refine wpAny_bind (wpAny_specialOf hT hl ?_)
 have fin : wpAny (model prog w) A (subscripted slice false o i) (fun r s₃ => wpAny (model prog w) A (letTemporaryGo value o r >>= fun _ => pure r) Q E s₃) E s₂ := by
  rw [hs o i]
  exact wpAny_operating (wpAny_mono h₂ (fun r s₃ h₃ => wpAny_bind (wpAny_letTemporaryGo (wpAny_pure h₃))) fun _ _ x => x)
 first
  | exact wpAny_pure (wpAny_bind fin)
  | exact wpAny_bind (wpAny_pure (wpAny_bind fin))
  | exact wpAny_bind fin
theorem Yl {X : Cx} {pins : List (Addr × Obj)} {σ : St} {H : Hp} {s : Shared} {a : Addr} {y : V} {o : Option V} (I : Inv X pins σ H s) (g : DGet H a y o) : s.TypeIs (.ref a) "dict" := by
 rcases g with ⟨kvs,k,e,_,_⟩ | ⟨kvs,k,b,e,_,_,_⟩
 . obtain ⟨_,_,vs,_,dd⟩ := Nc I.hok e
   exact dd.typeIs
 . obtain ⟨_,_,xs,_,dd⟩ := Yk I.hok e
   exact dd.typeIs
def A89 (td ty : TE) : TE := fun σ H Q => td σ H fun x H1 => ty σ H1 fun y H2 => ∃ a v,x = .ref a /\ DGet H2 a y (some v) /\ Q v H2
def A92 (td ty tv : TE) : TS := fun D σ H => tv σ H fun v H1 => td σ H1 fun x H2 => ty σ H2 fun y H3 => ∃ a H4,x = .ref a /\ DPut H3 a y v H4 /\ D.nx σ H4
section
variable {X : Cx} {o i e value : Expr} {pos pos' tpos : Pos} {td ty tv : TE}
theorem Tg (hu : X.A.units + 1 < cLine) (ho : PE X o td) (hi : PE X i ty) (hs : NoSl i) : PE X (.Subscript o i pos) (A89 td ty) := by
 intro pins s σ H Q I h
 refine Av1 PySem.F.slot_dict_getitem.lookup hs (thn (ho pins s σ H _ I h) fun u s1 ⟨x,H1,I1,rx,q1⟩ => thn (hi pins s1 σ H1 _ I1 q1) fun iv s2 ⟨y,H2,I2,ry,a,v,ex,g,q2⟩ => ?_)
 subst ex
 obtain rfl : u = Value.ref a := rx
 exact ⟨Yl I2 g,Aj8 hu I2 g ry fun w' s3 I3 rw' => ⟨v,H2,I3,rw',q2⟩⟩
theorem Ta (hu : X.A.units + 1 < cLine) (ho : PE X o td) (hi : PE X i ty) (hv : PE X value tv) (hs : swapsWith value (some (.Subscript o i pos')) pos.line X.env = pure false) :
 PS X (.Assign [.Subscript o i pos'] value pos) (A92 td ty tv) := by
 intro pins s σ H D I h
 refine wpAny_Assign_Subscript (thn (hv pins s σ H _ I h) fun r s1 ⟨v,H1,I1,rv,q1⟩ => thn (ho pins s1 σ H1 _ I1 q1) fun u s2 ⟨x,H2,I2,rx,q2⟩ => thn (hi pins s2 σ H2 _ I2 q2) fun iv s3 ⟨y,H3,I3,ry,a,H4,ex,g,q3⟩ => ?_) hs
 subst ex
 obtain rfl : u = Value.ref a := rx
 exact Aj7 hu I3 g ry rv fun s4 I4 => ⟨σ,H4,I4,q3⟩
end
theorem dk_empty {P : Program} {w : World} {H : Hp} (h : Heap) (hb : sysModules < h.objs.size) : ObjOk P w H (h.push { cls := .type "dict",data := .dict #[] }) h.objs.size (.dK []) :=
 ⟨Nat.zero_le _,beq_eq_false_iff_ne.mpr (Ne.symm (Nat.ne_of_lt hb)),[],.nil,Heap.DictOf.new h⟩
def A21 : TE := fun _ H Q => ∀ p,H p = none -> Q (.ref p) (upd H p (.dK []))
section
variable {X : Cx} {pos : Pos}
theorem Ki : PE X (.Dict [] [] pos) A21 := fun pins s σ H Q I h =>
 wpAny_Dict_empty ⟨.ref s.heap.objs.size,_,I.laid (a := s.heap.objs.size) (o := .dK []) (t' := s.toks) (fun _ _ q => Heap.get?_push_of_some _ q) (Nat.le_refl _) (dk_empty s.heap I.big),rfl,h _ (I.hok.fresh (Nat.le_refl _))⟩
end
def tPairs : List (TE × TE) -> St -> Hp -> (List (V × V) -> Hp -> Prop) -> Prop
 | [],_,H,Q => Q [] H
 | (tk,tv) :: r,σ,H,Q => tk σ H fun x H1 => tv σ H1 fun y H2 => tPairs r σ H2 fun ps H3 => Q ((x,y) :: ps) H3
abbrev VV : List (V × V) -> List (Value × Value) -> Prop := Paired fun p q => RelV p.1 q.1 /\ RelV p.2 q.2
def PPs (X : Cx) (pos : Pos) (keys : List (Option Expr)) (values : List Expr) (trs : List (TE × TE)) : Prop :=
 ∀ (pins : List (Addr × Obj)) (s : Shared) (σ : St) (H : Hp) (Q : List (V × V) -> Hp -> Prop),Inv X pins σ H s -> tPairs trs σ H Q →
   wpAny (model X.prog X.w) X.A (evalPairs (pairTrees keys values X.env pos)) (fun vs s' => ∃ ps H',Inv X pins σ H' s' /\ VV ps vs /\ Q ps H') X.xe s
theorem Aw2 {X : Cx} {pos : Pos} : PPs X pos [] [] [] := fun pins s σ H Q I h => pairTrees_nil_walk ⟨[],H,I,.nil,h⟩
theorem Ao1 {X : Cx} {pos : Pos} {k v : Expr} {ks : List (Option Expr)} {vs : List Expr} {tk tv : TE} {trs : List (TE × TE)} (hk : PE X k tk) (hv : PE X v tv) (hr : PPs X pos ks vs trs) :
 PPs X pos (some k :: ks) (v :: vs) ((tk,tv) :: trs) := fun pins s σ H Q I h =>
 pairTrees_cons_walk (thn (hk pins s σ H _ I h) fun u s1 ⟨x,H1,I1,rx,q1⟩ => thn (hv pins s1 σ H1 _ I1 q1) fun w2 s2 ⟨y,H2,I2,ry,q2⟩ =>
  thn (hr pins s2 σ H2 _ I2 q2) fun ws s3 ⟨ps,H3,I3,rel,q3⟩ => ⟨(x,y) :: ps,H3,I3,.cons ⟨rx,ry⟩ rel,q3⟩)
def Fe (kvs more : List (Key × V)) : List (Key × V) := more.foldl (fun acc kv => putK acc kv.1 kv.2) kvs
theorem KV.merge : ∀ {more : List (Key × V)} {rs : List (Key × Value)} {kvs : List (Key × V)} {vs : List (Key × Value)},KV more rs -> KV kvs vs -> KV (Fe kvs more) (merged vs rs) := by
 intro more rs kvs vs r
 unfold KV at r
 induction r generalizing kvs vs with
 | nil => intro q; exact q
 | @cons p q ps qs h t ih =>
   intro r0
   have e : KV (putK kvs p.1 p.2) (stored vs q.1 q.2) := by
    have := r0.put p.1 h.2
    rw [← h.1]; exact this
   exact ih e
theorem F6 : ∀ (more kvs : List (Key × V)),(Fe kvs more).length <= kvs.length + more.length
 | [],kvs => by show kvs.length <= kvs.length + 0; omega
 | p :: r,kvs => by
   have h1 := F6 r (putK kvs p.1 p.2)
   have h2 := Jt kvs p.1 p.2
   show (Fe (putK kvs p.1 p.2) r).length <= _
   rw [List.length_cons]; omega
theorem R7 {P : Program} {w : World} : ∀ {kvs : List (Key × V)} {ws : List (Value × Value)},VV (kvs.map fun kv => (kV kv.1,kv.2)) ws -> ∃ rs,Carries (mixKind P w) ws rs /\ KV kvs rs
 | [],_,r => by rw [List.map_nil] at r; cases r; exact ⟨[],True.intro,.nil⟩
 | p :: kvs,_,r => by
   rw [List.map_cons] at r
   cases r with
   | @cons a b as bs h t =>
     obtain ⟨rs,c,q⟩ := R7 (P := P) (w := w) t
     obtain ⟨b1,b2⟩ := b
     exact ⟨(p.1,b2) :: rs,⟨kV_is h.1,rfl,c⟩,.cons ⟨rfl,h.2⟩ q⟩
def A88 (trs : List (TE × TE)) : TE := fun σ H Q => ∀ p,H p = none -> tPairs trs σ (upd H p (.dK [])) fun ps H2 => H2 p = some (.dK []) /\ ∃ kvs : List (Key × V),ps = kvs.map (fun kv => (kV kv.1,kv.2)) /\ kvs.length <= 15 /\ Q (.ref p) (upd H2 p (.dK (Fe [] kvs)))
theorem Ax2 {X : Cx} {pos : Pos} {keys : List (Option Expr)} {values : List Expr} {trs : List (TE × TE)} (h : PPs X pos keys values trs) (hall : keys.all (·.isSome) = true) (hl : keys.length = values.length) (h0 : keys ≠ [])
 (h15 : keys.length <= 15) : PE X (.Dict keys values pos) (A88 trs) := by
 intro pins s σ H Q I q
 have hn := I.hok.fresh (Nat.le_refl s.heap.objs.size)
 have I1 := I.laid (a := s.heap.objs.size) (o := .dK []) (h' := s.heap.push { cls := .type "dict",data := .dict #[] }) (t' := s.toks) (fun _ _ q => Heap.get?_push_of_some _ q) (Nat.le_refl _) (dk_empty s.heap I.big)
 refine wpAny_Dict_walk (knd := mixKind X.prog X.w) hall hl h0 h15 (thn (h pins _ σ _ _ I1 (q _ hn)) fun ws s2 ⟨ps,H2,I2,rel,e,kvs,ep,lk,q2⟩ => ?_)
 subst ep
 obtain ⟨rs,c,rk⟩ := R7 (P := X.prog) (w := X.w) rel
 obtain ⟨z,hd,vs0,r0,dd⟩ := l7 I2.hok e
 cases r0
 refine ⟨rs,c,dd,fun h' dd' hs => ⟨.ref s.heap.objs.size,_,?_,rfl,q2⟩⟩
 have hz : (Fe [] kvs).length <= sizeLine := by
  have h1 := F6 kvs []
  rw [List.length_nil] at h1
  rw [sizeLine_eq]; omega
 have he : ∃ q,h'.get? s.heap.objs.size = some q := let ⟨q,_,_,hq,_⟩ := dd'; ⟨q,hq⟩
 exact Mi I2 (by rw [e]; exact True.intro) hs he (Pb hz hd (rk.merge .nil) dd')
structure M1 (X : Cx) (o : Expr) (m : Str) (apos : Pos) (e : Expr) (cpos : Pos) : Prop where
 base : attributeBase o m X.env (eval o X.env) = eval o X.env
 few : ((backTo cpos (starEach [e] X.env)).all (fun x => !x.1) && (backToKw cpos (keywordEach [] X.env)).all (fun x => x.1.isSome)
  && decide (([e] : List Expr).length + ([] : List Keyword).length + (if ([] : List Keyword).isEmpty then 0 else 1) < 30)) = true
 line : (apos.endLine == cpos.line) = true
 trees : backTo cpos (starEach [e] X.env) = [(false,eval e X.env)]
structure M2 (X : Cx) (o : Expr) (m : Str) (apos : Pos) (e f : Expr) (cpos : Pos) : Prop where
 base : attributeBase o m X.env (eval o X.env) = eval o X.env
 few : ((backTo cpos (starEach [e,f] X.env)).all (fun x => !x.1) && (backToKw cpos (keywordEach [] X.env)).all (fun x => x.1.isSome)
  && decide (([e,f] : List Expr).length + ([] : List Keyword).length + (if ([] : List Keyword).isEmpty then 0 else 1) < 30)) = true
 line : (apos.endLine == cpos.line) = true
 trees : backTo cpos (starEach [e,f] X.env) = [(false,eval e X.env),(false,eval f X.env)]
def IsD (H : Hp) (a : Addr) : Prop := (∃ kvs,Rd H a (.dK kvs)) \/ ∃ kvs,Rd H a (.dT kvs)
theorem Zf {X : Cx} {pins : List (Addr × Obj)} {σ : St} {H : Hp} {s : Shared} {a : Addr} (I : Inv X pins σ H s) (d : IsD H a) :
 s.TypeIs (.ref a) "dict" /\ (∀ b,Value.ref a = .ref b -> ∃ ob,s.heap.get? b = some ob /\ ob.dict = none) /\ (a == sysModules) = false := by
 rcases d with ⟨kvs,e⟩ | ⟨kvs,e⟩
 . obtain ⟨_,hd,vs,_,dd⟩ := Nc I.hok e
   refine ⟨dd.typeIs,fun b q => ?_,hd⟩
   cases q
   obtain ⟨ob,_,_,h1,h2,_⟩ := dd
   exact ⟨ob,h1,h2.2.1⟩
 . obtain ⟨_,hd,xs,_,dd⟩ := Yk I.hok e
   refine ⟨dd.typeIs,fun b q => ?_,hd⟩
   cases q
   obtain ⟨ob,_,_,h1,h2,_⟩ := dd
   exact ⟨ob,h1,h2.2.1⟩
section
variable {X : Cx} {pins : List (Addr × Obj)} {σ : St} {H : Hp} {s : Shared} {a : Addr} {y d : V} {u r : Value} {o : Option V} {A : Around} {E : Value -> Shared -> Prop}
theorem A77 {Q : Value -> Shared -> Prop} (hu : A.units + 1 < cLine) (I : Inv X pins σ H s) (g : DGet H a y o) (ry : RelV y u) (h : ∀ w' s',Inv X pins σ H s' -> RelV (o.getD .non) w' -> Q w' s') :
 wpAny (model X.prog X.w) A (call (.builtin "dict.get") [.ref a,u]) Q E s := by
 rcases g with ⟨kvs,k,e,ey,l⟩ | ⟨kvs,k,b,e,ey,eb,l⟩
 . subst ey
   obtain ⟨z,hd,vs,rel,dd⟩ := Nc I.hok e
   refine call_meetsIn PySem.F.slot_dict_get dd.typeIs PySem.F.entry_dict_get (PySem.F.args_dict_get_2 _ _) (meets_dict_get (mixKind X.prog X.w) a (kV_is ry) hd) ⟨_,dd.mapOf,h _ _ (I.tok _) ?_⟩
   rw [l]
   exact (rel.val k).getD rfl
 . subst ey
   cases (show u = Value.ref b from ry)
   obtain ⟨z,hd,xs,rel,dd⟩ := Yk I.hok e
   refine call_meetsIn PySem.F.slot_dict_get dd.typeIs PySem.F.entry_dict_get (PySem.F.args_dict_get_2 _ _) (meetsH_dict_get (tupleKind (mixKind X.prog X.w)) a b hd) ⟨tupleKind_room_in1 hu,k,xs,Rv I.hok eb,dd,h _ _ (I.tok _) ?_⟩
   rw [l]
   exact (rel.val k).getD rfl
theorem A76 {Q : Value -> Shared -> Prop} (hu : A.units + 1 < cLine) (I : Inv X pins σ H s) (g : DGet H a y o) (ry : RelV y u) (rd : RelV d r) (h : ∀ w' s',Inv X pins σ H s' -> RelV (o.getD d) w' -> Q w' s') :
 wpAny (model X.prog X.w) A (call (.builtin "dict.get") [.ref a,u,r]) Q E s := by
 rcases g with ⟨kvs,k,e,ey,l⟩ | ⟨kvs,k,b,e,ey,eb,l⟩
 . subst ey
   obtain ⟨z,hd,vs,rel,dd⟩ := Nc I.hok e
   refine call_meetsIn PySem.F.slot_dict_get dd.typeIs PySem.F.entry_dict_get (PySem.F.args_dict_get_3 _ _ _) (meets_dict_get_default (mixKind X.prog X.w) a (kV_is ry) hd r) ⟨_,dd.mapOf,h _ _ (I.tok _) ?_⟩
   rw [l]
   exact (rel.val k).getD rd
 . subst ey
   cases (show u = Value.ref b from ry)
   obtain ⟨z,hd,xs,rel,dd⟩ := Yk I.hok e
   refine call_meetsIn PySem.F.slot_dict_get dd.typeIs PySem.F.entry_dict_get (PySem.F.args_dict_get_3 _ _ _) (meetsH_dict_get_default (tupleKind (mixKind X.prog X.w)) a b hd r) ⟨tupleKind_room_in1 hu,k,xs,Rv I.hok eb,dd,h _ _ (I.tok _) ?_⟩
   rw [l]
   exact (rel.val k).getD rd
end
def tDGet1 (td ty : TE) : TE := fun σ H Q => td σ H fun x H1 => ∃ a,x = .ref a /\ IsD H1 a /\ ty σ H1 fun y H2 => ∃ o,DGet H2 a y o /\ Q (o.getD .non) H2
def A22 (td ty tx : TE) : TE := fun σ H Q => td σ H fun x H1 => ∃ a,x = .ref a /\ IsD H1 a /\ ty σ H1 fun y H2 => tx σ H2 fun z H3 => ∃ o,DGet H3 a y o /\ Q (o.getD z) H3
def A20 (td ty tx : TE) : TE := fun σ H Q => td σ H fun x H1 => ∃ a,x = .ref a /\ IsD H1 a /\ ty σ H1 fun y H2 => tx σ H2 fun z H3 => ∃ kvs k,H3 a = some (.dK kvs) /\ y = kV k ∧
 (∀ v,valV kvs k = some v -> Q v (upd H3 a (.dK (V5 kvs k)))) /\ (valV kvs k = none -> Q z H3)
section
variable {X : Cx} {o e f : Expr} {apos cpos : Pos} {td ty tx : TE}
theorem Y9 (hu : X.A.units + 1 < cLine) (ho : PE X o td) (he : PE X e ty) (m : M1 X o "get" apos e cpos) : PE X (.Call (.Attribute o "get" apos) [e] [] cpos) (tDGet1 td ty) := by
 intro pins s σ H Q I h
 refine wpAny_Call_method m.base m.few m.line PySem.F.plainAttrs_dict PySem.F.slot_dict_get PySem.F.type_dict_get (thn (ho pins s σ H _ I h) fun u s1 ⟨x,H1,I1,rx,a,ex,d,q1⟩ => ?_)
 subst ex
 obtain rfl : u = Value.ref a := rx
 obtain ⟨t1,t2,_⟩ := Zf I1 d
 refine ⟨t1,t2,?_⟩
 rw [m.trees]
 refine Calls.callWith_builtin rfl (Calls.evalArgs_plain (Calls.spliced_cons (thn (he pins s1 σ H1 _ I1 q1) fun iv s2 ⟨y,H2,I2,ry,ov,g,q2⟩ => Calls.spliced_nil ?_)))
 exact A77 hu I2 g ry fun w' s3 I3 rw' => ⟨_,H2,I3,rw',q2⟩
theorem Y8 (hu : X.A.units + 1 < cLine) (ho : PE X o td) (he : PE X e ty) (hf : PE X f tx) (m : M2 X o "get" apos e f cpos) : PE X (.Call (.Attribute o "get" apos) [e,f] [] cpos) (A22 td ty tx) := by
 intro pins s σ H Q I h
 refine wpAny_Call_method m.base m.few m.line PySem.F.plainAttrs_dict PySem.F.slot_dict_get PySem.F.type_dict_get (thn (ho pins s σ H _ I h) fun u s1 ⟨x,H1,I1,rx,a,ex,d,q1⟩ => ?_)
 subst ex
 obtain rfl : u = Value.ref a := rx
 obtain ⟨t1,t2,_⟩ := Zf I1 d
 refine ⟨t1,t2,?_⟩
 rw [m.trees]
 refine Calls.callWith_builtin rfl (Calls.evalArgs_plain (Calls.spliced_cons (thn (he pins s1 σ H1 _ I1 q1) fun iv s2 ⟨y,H2,I2,ry,q2⟩ =>
  Calls.spliced_cons (thn (hf pins s2 σ H2 _ I2 q2) fun fv s3 ⟨z,H3,I3,rz,ov,g,q3⟩ => Calls.spliced_nil ?_))))
 exact A76 hu I3 g ry rz fun w' s4 I4 rw' => ⟨_,H3,I4,rw',q3⟩
theorem Ao9 (ho : PE X o td) (he : PE X e ty) (hf : PE X f tx) (m : M2 X o "pop" apos e f cpos) : PE X (.Call (.Attribute o "pop" apos) [e,f] [] cpos) (A20 td ty tx) := by
 intro pins s σ H Q I h
 refine wpAny_Call_method m.base m.few m.line PySem.F.plainAttrs_dict PySem.F.slot_dict_pop PySem.F.type_dict_pop (thn (ho pins s σ H _ I h) fun u s1 ⟨x,H1,I1,rx,a,ex,d,q1⟩ => ?_)
 subst ex
 obtain rfl : u = Value.ref a := rx
 obtain ⟨t1,t2,_⟩ := Zf I1 d
 refine ⟨t1,t2,?_⟩
 rw [m.trees]
 refine Calls.callWith_builtin rfl (Calls.evalArgs_plain (Calls.spliced_cons (thn (he pins s1 σ H1 _ I1 q1) fun iv s2 ⟨y,H2,I2,ry,q2⟩ =>
  Calls.spliced_cons (thn (hf pins s2 σ H2 _ I2 q2) fun fv s3 ⟨z,H3,I3,rz,kvs,k,ea,ey,q3,q4⟩ => Calls.spliced_nil ?_))))
 subst ey
 cases l : valV kvs k with
 | some v => exact Ba9 I3 ea ry l (.inr ⟨fv,rfl⟩) fun w' s4 I4 rw' => ⟨v,_,I4,rw',q3 v l⟩
 | none => exact A75 I3 ea ry l fun s4 I4 => ⟨z,H3,I4,rz,q4 l⟩
end
section
variable {X : Cx} {pins : List (Addr × Obj)} {σ : St} {H : Hp} {s : Shared} {a : Addr} {kvs : List (Key × V)} {A : Around} {E : Value -> Shared -> Prop}
theorem Ar7 {Q : Value -> Shared -> Prop} (I : Inv X pins σ H s) (e : Rd H a (.dK kvs)) (h : ∀ p s',H p = none -> Inv X pins σ (upd H p (.dK kvs)) s' -> Q (.ref p) s') : wpAny (model X.prog X.w) A (call (.type "dict") [.ref a]) Q E s := by
 obtain ⟨z,hd,vs,rel,dd⟩ := Nc I.hok e
 refine kt_call_dict hd dd (by rw [← rel.length]; exact z) fun h' dd' hs => ?_
 refine h _ _ (I.hok.fresh (Nat.le_refl _)) (I.laid (a := s.heap.objs.size) (o := .dK kvs) (t' := s.toks) (fun b q hq => ?_) (Nat.le_refl _) (Pb z (beq_eq_false_iff_ne.mpr (Ne.symm (Nat.ne_of_lt I.big))) rel dd'))
 exact (hs.2 b (Nat.ne_of_lt (Heap.lt_size hq))).trans (Heap.get?_push_of_some _ hq)
end
section
variable {X : Cx} {pins : List (Addr × Obj)} {σ : St} {H : Hp} {s : Shared} {a : Addr} {y : V} {u : Value} {A : Around} {E : Value -> Shared -> Prop}
end
end L2
namespace L2
open PySem PySem.Spec PyProof.Rows
section
variable {X : Cx}
theorem Pr : Fp X (.builtin "len") (fun xs H Q => ∃ a kvs,xs = [V.ref a] /\ H a = some (.dK kvs) /\ Q (.int kvs.length) H) := by
 intro pins s σ H xs us Q I r h
 obtain ⟨a,kvs,rfl,ha,q⟩ := h
 obtain ⟨u,rfl,ru⟩ := So r
 cases ru
 exact Bb0 I (.inl ha) fun t s' I' => ⟨.int kvs.length,H,I',⟨t,rfl⟩,q⟩
end
end L2
namespace L2
open PySem PySem.Spec PyProof.Rows
def clOf (cells : List (Str × Addr)) : List (Str × NameKind) -> List (Str × Addr) -> List (Str × Addr)
 | [],acc => acc
 | (n,k) :: r,acc => clOf cells r (if (k == NameKind.free) = true then (n,(cells.lookup n).getD 0) :: acc else acc)
theorem Mo {sc : Scope} {env : Env} (h : ∀ n,(n,NameKind.free) ∈ sc.names -> ∃ c,env.cells.lookup n = some c) : closureFor sc env = pure (clOf env.cells sc.names []) := by
 have all : ∀ (l : List (Str × NameKind)) (acc : List (Str × Addr)),(∀ n,(n,NameKind.free) ∈ l -> ∃ c,env.cells.lookup n = some c) →
  (forIn l acc fun (x : Str × NameKind) (cs : List (Str × Addr)) => match x with
    | (name,kind) => if (kind == NameKind.free) = true then (do let c ← cellOf env name; pure (ForInStep.yield ((name,c) :: cs))) else pure (ForInStep.yield cs)) = (pure (clOf env.cells l acc) : Sem _) := by
  intro l
  induction l with
  | nil => intro acc _; rfl
  | cons x r ih =>
    intro acc hl
    obtain ⟨n,k⟩ := x
    rw [List.forIn_cons]
    by_cases hk : (k == NameKind.free) = true
    . have hk' : k = NameKind.free := by simpa using hk
      subst hk'
      obtain ⟨c,hc⟩ := hl n List.mem_cons_self
      have e1 : cellOf env n = pure c := by unfold cellOf; rw [hc]
      simp only [beq_self_eq_true,if_true,e1,pure_bind]
      rw [ih _ fun m hm => hl m (List.mem_cons_of_mem _ hm)]
      show _ = (pure (clOf env.cells r (if (NameKind.free == NameKind.free) = true then (n,(env.cells.lookup n).getD 0) :: acc else acc)) : Sem _)
      rw [if_pos (by simp),hc]
      rfl
    . have hk2 : (k == NameKind.free) = false := by simpa using hk
      simp only [hk2,Bool.false_eq_true,if_false,pure_bind]
      rw [ih _ fun m hm => hl m (List.mem_cons_of_mem _ hm)]
      show _ = (pure (clOf env.cells r (if (k == NameKind.free) = true then (n,(env.cells.lookup n).getD 0) :: acc else acc)) : Sem _)
      rw [if_neg hk]
 have := all sc.names [] h
 unfold closureFor
 dsimp only
 rw [this,pure_bind]
theorem B2 {cells : List (Str × Addr)} {x : Str} {c : Addr} : ∀ {l : List (Str × NameKind)} {acc : List (Str × Addr)},(∀ n,(n,NameKind.free) ∈ l -> ∃ c,cells.lookup n = some c) →
 (acc.lookup x = some c -> cells.lookup x = some c) -> (clOf cells l acc).lookup x = some c -> cells.lookup x = some c
 | [],_,_,ha,h => ha h
 | (n,k) :: r,acc,hl,ha,h => by
   refine B2 (l := r) (fun m hm => hl m (List.mem_cons_of_mem _ hm)) ?_ h
   by_cases hk : (k == NameKind.free) = true
   . rw [if_pos hk]
     have hk' : k = NameKind.free := by simpa using hk
     subst hk'
     obtain ⟨d,hd⟩ := hl n List.mem_cons_self
     intro e
     rw [List.lookup_cons] at e
     cases hx : x == n with
     | true =>
       rw [hx] at e
       have hxn : x = n := by simpa using hx
       subst hxn
       rw [hd] at e ⊢
       exact e
     | false => rw [hx] at e; exact ha e
   . rw [if_neg hk]; exact ha
theorem Kz {cells : List (Str × Addr)} {x : Str} : ∀ {l : List (Str × NameKind)} {acc : List (Str × Addr)},((x,NameKind.free) ∈ l \/ ∃ c,acc.lookup x = some c) -> ∃ c,(clOf cells l acc).lookup x = some c
 | [],_,h => by
   rcases h with h | h
   . exact nomatch h
   . exact h
 | (n,k) :: r,acc,h => by
   refine Kz (l := r) ?_
   by_cases hk : (k == NameKind.free) = true
   . rw [if_pos hk]
     by_cases hx : (x == n) = true
     . exact .inr ⟨(cells.lookup n).getD 0,by rw [List.lookup_cons,hx]⟩
     . have hx2 : (x == n) = false := by simpa using hx
       rcases h with h | ⟨c,h⟩
       . rcases List.mem_cons.mp h with e | e
         . have e1 : x = n := congrArg Prod.fst e
           exact absurd (by simp [e1]) hx
         . exact .inl e
       . exact .inr ⟨c,by rw [List.lookup_cons,hx2]; exact h⟩
   . rw [if_neg hk]
     rcases h with h | h
     . rcases List.mem_cons.mp h with e | e
       . have e2 : NameKind.free = k := congrArg Prod.snd e
         exact absurd (by simp [← e2]) hk
       . exact .inl e
     . exact .inr h
def Dq (X : Cx) (sc : Scope) (N' : List Str) (C : Addr) (s₀ : Shared) (H₀ : Hp) (fp : List Addr) : Cx where
 prog := X.prog
 w := X.w
 K := X.K
 mg := X.mg
 base := X.base
 A := X.A
 N := N'
 s₀ := s₀
 H₀ := H₀
 env := compEnvC sc (clOf X.env.cells sc.names []) C X.env
 outer := X.stack
 stack := X.stack
 ex := fp
 fn := fun _ => false
 calm := X.calm
 pn := []
 xe := fun _ _ => False
def capS (cap : List (Option Nat)) (σ : St) : St := cap.map fun o => o.bind fun j => (σ[j]?).join
structure W9 (X : Cx) (sc : Scope) (N' : List Str) (cap : List (Option Nat)) : Prop where
 kind : sc.kind = .function
 len : cap.length = N'.length
 nocell : ∀ x ∈ sc.names,x.2 ≠ NameKind.cell
 locals : ∀ x ∈ sc.names,x.2 = NameKind.local -> sc.names.lookup x.1 = some NameKind.local
 free : ∀ n,(n,NameKind.free) ∈ sc.names -> X.env.kindOf n = some .cell \/ X.env.kindOf n = some .free
 slots : ∀ (i j : Nat) (x : Str),N'[i]? = some x -> cap[i]? = some (some j) -> X.N[j]? = some x /\ ((relabel sc X.env).names.lookup x = some .cell \/ (relabel sc X.env).names.lookup x = some .free) /\ Vis X.env.scope x
section
variable {X : Cx} {sc : Scope} {N' : List Str} {cap : List (Option Nat)} {pins : List (Addr × Obj)} {σ : St} {H : Hp} {s : Shared} {C : Addr} {fp : List Addr}
theorem W9.cells (c : W9 X sc N' cap) (ok : X.Ok) : ∀ n,(n,NameKind.free) ∈ sc.names -> ∃ c,X.env.cells.lookup n = some c := fun n hn => ok.has n (c.free n hn)
theorem Fv {env : Env} {x : Str} {k : NameKind} (hnc : ∀ x ∈ sc.names,x.2 ≠ NameKind.cell) (h : (relabel sc env).names.lookup x = some k) (hk : k = .cell \/ k = .free) : (x,NameKind.free) ∈ sc.names := by
 have all : ∀ (l : List (Str × NameKind)),(∀ x ∈ l,x.2 ≠ NameKind.cell) -> (l.map fun (n,k) => if (k == NameKind.free && env.scope.kind == .function && env.kindOf n == some .cell) then (n,NameKind.cell) else (n,k)).lookup x = some k -> (x,NameKind.free) ∈ l := by
  intro l
  induction l with
  | nil => intro _ h; exact nomatch h
  | cons p r ih =>
    intro hn h
    obtain ⟨n,q⟩ := p
    rw [List.map_cons,List.lookup_cons] at h
    by_cases hc : (q == NameKind.free && env.scope.kind == .function && env.kindOf n == some .cell) = true
    . have hq : q = NameKind.free := by
       have := hc
       simp only [Bool.and_eq_true] at this
       simpa using this.1.1
      simp only [hc,if_true] at h
      cases hx : x == n with
      | true =>
        have e : x = n := by simpa using hx
        rw [e,hq]
        exact List.mem_cons_self
      | false =>
        rw [hx] at h
        exact List.mem_cons_of_mem _ (ih (fun y hy => hn y (List.mem_cons_of_mem _ hy)) h)
    . simp only [hc] at h
      cases hx : x == n with
      | true =>
        have e : x = n := by simpa using hx
        simp only [Bool.false_eq_true,if_false,hx] at h
        have e2 : q = k := by simpa using h
        rcases hk with z | z
        . exact absurd (e2.trans z) (hn (n,q) List.mem_cons_self)
        . rw [e,← z,← e2]
          exact List.mem_cons_self
      | false =>
        simp only [Bool.false_eq_true,if_false,hx] at h
        exact List.mem_cons_of_mem _ (ih (fun y hy => hn y (List.mem_cons_of_mem _ hy)) h)
 exact all sc.names hnc h
theorem A09 (c : W9 X sc N' cap) (I : Inv X pins σ H s) (hC : s.heap.objs.size <= C) (hf : ∀ b ∈ fp,FpOk X pins H b) (hb : ∀ b ∈ fp,b < s.heap.objs.size) : (Dq X sc N' C s H fp).Ok where
 mod := I.ok.mod
 kind := c.kind
 glob := I.ok.glob
 blt := I.ok.blt
 above := hC
 inj := fun x y a hx hy => I.ok.inj x y a (B2 (c.cells I.ok) (fun z => by simp at z) hx) (B2 (c.cells I.ok) (fun z => by simp at z) hy)
 has := fun x hx => by
  refine Kz (.inl ?_)
  rcases hx with hx | hx
  . exact Fv c.nocell hx (.inl rfl)
  . exact Fv c.nocell hx (.inr rfl)
 cab := fun _ _ h => nomatch h
 hd := I.ok.hd
 frames := I.ok.frames
 stk := .inl rfl
 exf := fun b hb' => ⟨Nat.ne_of_lt (Nat.lt_of_lt_of_le (hb b hb') hC),fun x a e => (hf b hb').2.2.2.2.1 x a (B2 (c.cells I.ok) (fun z => by simp at z) e)⟩
 bs := I.bs
 bsz := Nat.le_trans I.ok.bsz I.sz
 noex := fun b o e hb' => by
  rcases (hf b hb').2.2.2.1 with z | z
  . exact I.ok.noex b o e z
  . exact absurd (Nat.lt_of_lt_of_le (Heap.lt_size e) (Nat.le_trans I.ok.bsz z)) (Nat.lt_irrefl _)
 exfs := fun b hb' z => by
  obtain ⟨_,f1,f2,_⟩ := hf b hb'
  rcases List.mem_cons.mp (I.stkSub b z) with e | e
  . exact f1 e
  . exact f2 e
 funs := I.stack
 frf := I.stkFree
theorem As3 (c : W9 X sc N' cap) (I : Inv X pins σ H s) {D : Addr} {h1 : Heap} {t : Nat} (hC : C = s.heap.objs.size + 1) (hD : D = s.heap.objs.size) (hf : ∀ b ∈ fp,FpOk X pins H b) (hb : ∀ b ∈ fp,b < s.heap.objs.size)
 (hn : h1.Ns C fun _ => none) (hl : h1.get? D = some { cls := .type "list",data := .seq #[] 0 }) (k : ∀ b o,s.heap.get? b = some o -> h1.get? b = some o) :
 Inv (Dq X sc N' C s H fp) [] (capS cap σ) (upd H D (.lst [])) { s with heap := h1,toks := t } := by
 have hCs : s.heap.objs.size <= C := by rw [hC]; exact Nat.le_succ _
 have hCD : C ≠ D := by rw [hC,hD]; exact Nat.succ_ne_self _
 have ok := A09 (C := C) (fp := fp) c I hCs hf hb
 have hDn : H D = none := by rw [hD]; exact I.fresh
 have ltc : ∀ x a,(clOf X.env.cells sc.names []).lookup x = some a -> X.env.cells.lookup x = some a := fun x a e => B2 (c.cells I.ok) (fun z => by simp at z) e
 have cel : ∀ a v,s.heap.IsCell a v -> h1.IsCell a v := fun a v ⟨o,ho,hd⟩ => ⟨o,k a o ho,hd⟩
 have ltD : ∀ a v,s.heap.IsCell a v -> a ≠ D := fun a v ⟨o,ho,hd⟩ => by rw [hD]; exact Nat.ne_of_lt (Heap.lt_size ho)
 refine ⟨ok,rfl,I.bare,Un.laid k (by rw [hD]; exact Nat.le_refl _) hDn,⟨_,hn,fun i x v e1 e2 e3 => ?_⟩,fun x a e => ?_,?_,fun x a e => ?_,fun p hp => absurd hp (by simp [Dq]),?_,?_⟩
 . have e2' : cap[i]?.map (fun o => o.bind fun j => (σ[j]?).join) = some (some v) := by
    have := e2
    unfold capS at this
    rw [List.getElem?_map] at this
    exact this
   cases hc : cap[i]? with
   | none => rw [hc] at e2'; cases e2'
   | some o =>
     rw [hc] at e2'
     cases o with
     | none => cases e2'
     | some j =>
       have e4 : (σ[j]?).join = some v := by simpa using e2'
       obtain ⟨q1,q2',q3⟩ := c.slots i j x e1 hc
       have q2 : (x,NameKind.free) ∈ sc.names := q2'.elim (fun z => Fv c.nocell z (.inl rfl)) fun z => Fv c.nocell z (.inr rfl)
       obtain ⟨m,hm,hl'⟩ := I.loc
       have e5 : σ[j]? = some (some v) := by
        cases z : σ[j]? with
        | none => rw [z] at e4; cases e4
        | some y => rw [z] at e4; cases y with
          | none => cases e4
          | some y' => cases e4; rfl
       obtain ⟨u,r,l⟩ := hl' j x v q1 e5 q3
       refine ⟨u,r,?_⟩
       obtain ⟨a,ha⟩ := Kz (cells := X.env.cells) (l := sc.names) (acc := []) (x := x) (.inl q2)
       have kd : X.env.kindOf x = some .cell \/ X.env.kindOf x = some .free := c.free x q2
       rcases l with ⟨hk,_⟩ | ⟨hk,a',ha',hcell⟩
       . rcases kd with z | z <;> rw [z] at hk <;> cases hk
       . have e6 : a' = a := by
          have := ltc x a ha
          rw [ha'] at this
          exact Option.some.inj this
         refine .inr ⟨q2',a,ha,?_⟩
         rw [← e6]
         exact cel _ _ hcell
 . obtain ⟨v,z⟩ := I.cell x a (ltc x a e)
   exact ⟨v,cel a v z⟩
 . show upd H D (.lst []) C = none
   rw [Ae hCD]
   exact I.hok.fresh hCs
 . show upd H D (.lst []) a = none
   obtain ⟨v,z⟩ := I.cell x a (ltc x a e)
   rw [Ae (ltD a v z)]
   exact I.freeC x a (ltc x a e)
 . exact I.hok.laid k (by rw [hD]; exact Nat.le_refl _) ⟨Nat.zero_le _,[],0,.nil,hl⟩
 . show (capS cap σ).length = N'.length
   unfold capS
   rw [List.length_map,c.len]
end
end L2
namespace L2
open PySem PySem.Spec PyProof.Rows
def capB (osc : Scope) (N : List Str) (sc : Scope) (N' : List Str) (cap : List (Option Nat)) : Bool :=
 decide (sc.kind = .function) && decide (cap.length = N'.length) && sc.names.all (fun x => decide (x.2 ≠ NameKind.cell)) && sc.names.all (fun x => decide (x.2 = NameKind.local -> sc.names.lookup x.1 = some NameKind.local)) &&
 sc.names.all (fun x => decide (x.2 = NameKind.free -> (osc.names.lookup x.1 = some .cell \/ osc.names.lookup x.1 = some .free))) &&
 (N'.zip cap).all (fun p => match p.2 with
   | none => true
   | some j => decide (N[j]? = some p.1) && decide (((sc.names.map fun (n,k) => if (k == .free && osc.kind == .function && osc.names.lookup n == some .cell) then (n,NameKind.cell) else (n,k)).lookup p.1 = some .cell) ∨
      ((sc.names.map fun (n,k) => if (k == .free && osc.kind == .function && osc.names.lookup n == some .cell) then (n,NameKind.cell) else (n,k)).lookup p.1 = some .free)) &&
     decide (osc.names.lookup p.1 = some .local \/ osc.names.lookup p.1 = some .cell \/ osc.names.lookup p.1 = some .free))
theorem Al2 {X : Cx} {sc : Scope} {N' : List Str} {cap : List (Option Nat)} (h : capB X.env.scope X.N sc N' cap = true) : W9 X sc N' cap := by
 unfold capB at h
 rw [Bool.and_eq_true,Bool.and_eq_true,Bool.and_eq_true,Bool.and_eq_true,Bool.and_eq_true,List.all_eq_true,List.all_eq_true,List.all_eq_true,List.all_eq_true] at h
 obtain ⟨⟨⟨⟨⟨h1,h2⟩,h3⟩,h4⟩,h5⟩,h6⟩ := h
 refine ⟨of_decide_eq_true h1,of_decide_eq_true h2,fun x hx => of_decide_eq_true (h3 x hx),fun x hx => of_decide_eq_true (h4 x hx),fun n hn => of_decide_eq_true (h5 _ hn) rfl,fun i j x e1 e2 => ?_⟩
 have hm : (x,some j) ∈ N'.zip cap := by
  have e : (N'.zip cap)[i]? = some (x,some j) := by
   rw [List.getElem?_zip_eq_some]
   exact ⟨e1,e2⟩
  exact List.mem_of_getElem? e
 have h7 := h6 _ hm
 dsimp only at h7
 rw [Bool.and_eq_true,Bool.and_eq_true] at h7
 obtain ⟨⟨h8,h9⟩,h10⟩ := h7
 exact ⟨of_decide_eq_true h8,of_decide_eq_true (p := (relabel sc X.env).names.lookup x = some .cell \/ (relabel sc X.env).names.lookup x = some .free) h9,of_decide_eq_true (p := X.env.scope.names.lookup x = some .local \/ X.env.scope.names.lookup x = some .cell \/ X.env.scope.names.lookup x = some .free) h10⟩
def PTs (X : Cx) (ifs : List Expr) (t : TT) : Prop :=
 ∀ (pins : List (Addr × Obj)) (s : Shared) (σ : St) (H : Hp) (Q : Bool -> Hp -> Prop),Inv X pins σ H s -> t σ H Q →
   wpAny (model X.prog X.w) X.A (forIn ifs true fun c r => if r = true then do let ok ← isTrue c X.env (eval c X.env); pure (ForInStep.yield ok) else pure (ForInStep.yield r)) (TP X pins σ Q) X.xe s
def tYes : TT := fun _ H Q => Q true H
theorem Dr {X : Cx} : PTs X [] tYes := fun _ _ _ H _ I h => wpAny_tests_nil ⟨H,I,h⟩
theorem G8 {X : Cx} {c : Expr} {t : TT} (h : PT X c t) : PTs X [c] t := fun pins s σ H Q I hw => wpAny_tests_one (h pins s σ H Q I hw)
def RunC (J : It) (g : TG) (tc : TT) (te : TE) (D : Addr) (Q : Hp -> Prop) (τ : St) (H : Hp) : Prop :=
 ∃ W : Nat -> Nat -> List V -> St -> Hp -> Prop,(∃ m,W 0 m [] τ H) /\ ∀ i m ys τ H,W i m ys τ H →
   (J.stop i H /\ Q H) ∨
   (J.go i H /\ ∃ N : List V -> St -> Hp -> Prop,(∀ ys' τ' H',N ys' τ' H' -> ∃ m',m' < m /\ W (i + 1) m' ys' τ' H') ∧
     ∀ x H',J.yld i H x H' -> g x τ H' fun τ2 H2 => tc τ2 H2 fun b H3 => if b = true then te τ2 H3 fun y H4 => H4 D = some (.lst ys) /\ ys.length < sizeLine /\ N (ys ++ [y]) τ2 (upd H4 D (.lst (ys ++ [y]))) else N ys τ2 H3)
section
variable {X : Cx} {sc : Scope} {N' : List Str} {cap : List (Option Nat)} {tg elt iter : Expr} {ifs : List Expr} {pos : Pos} {g : TG} {tc : TT} {te : TE}
theorem Wd {Y : Cx} {J : It} {fp : List Addr} {it D : Addr} {tn : Nat -> Heap -> Prop} {R : Result -> Shared -> Prop} {Q : Hp -> Prop} {τ : St} {H : Hp} {s : Shared}
 (hx : Y.xe = fun _ _ => False) (hc : Y.calm = true) (hg : PG Y tg g) (ht : PTs Y ifs tc) (he : PE Y elt te) (T : Turn Y.prog Y.w Y.K tg J fp it tn) (st : tn 0 s.heap) (hf : ∀ b ∈ fp,FpOk Y [] H b) (I : Inv Y [] τ H s)
 (h : RunC J g tc te D Q τ H) (hR : ∀ τ' H' s',Inv Y [] τ' H' s' -> Q H' -> R (.ok .next) s') :
 codeAny (model Y.prog Y.w) Y.A (.compLoop (.ListComp elt [⟨tg,iter,ifs,0⟩] sc pos) 0 (.ref it) (.ref D) Y.env) R s := by
 obtain ⟨W,⟨m0,w0⟩,turn⟩ := h
 have stat : ∀ {H' : Hp},(∀ b ∈ fp,H' b = none) -> ∀ b ∈ fp,FpOk Y [] H' b := fun hn b hb => ⟨hn b hb,(hf b hb).2⟩
 have no : ∀ {P : Prop} {e : Value} {s' : Shared},Y.xe e s' -> P := fun z => by rw [hx] at z; exact z.elim
 refine codeAny_loop rfl (fun n s' => ∃ i ys τ' H',Inv Y [] τ' H' s' /\ tn i s'.heap /\ (∀ b ∈ fp,H' b = none) /\ W i n ys τ' H') ?_ m0 ⟨0,[],τ,H,I,st,fun b hb => (hf b hb).1,w0⟩
 rintro n s3 ⟨i,ys,τ3,H3,I3,st3,fr3,w3⟩
 show wpAny _ Y.A ((compTurn (.ListComp elt [⟨tg,iter,ifs,0⟩] sc pos) 0 (.ref it) (.ref D) Y.env).onRaise (fun x => do noteFrame x Y.env; theTreesLotGoes x)) _ _ s3
 refine wpAny_noted ?_
 rw [compTurn_list]
 refine wpAny_bind (wpAny_standAt (wpAny_bind ?_))
 rcases turn i n ys τ3 H3 w3 with ⟨stop,qn⟩ | ⟨go,N,hN,step⟩
 . refine wpAny_mono (T.done Y rfl rfl rfl hc i [] s3 τ3 H3 (fun _ _ => False) I3 (stat fr3) st3 stop) (fun r s4 ⟨hr,I4⟩ => ?_) fun _ _ z => z.elim
   subst hr
   exact wpAny_pure (hR _ _ _ I4 qn)
 . refine wpAny_mono (T.item Y rfl rfl rfl hc i [] s3 τ3 H3 (fun _ _ => False) I3 (stat fr3) st3 go) (fun r s4 ⟨u,hr,h4⟩ => ?_) fun _ _ z => z.elim
   subst hr
   refine wpAny_bind (wpAny_mono h4 (fun _ s5 ⟨x,H5,I5,r5,y5,st5,fr5⟩ => ?_) fun _ _ z => z.elim)
   have I5' := I5.pinned (stat fr5) (T.obj _ _ st5)
   have again : ∀ {τ7 : St} {H7 : Hp} {ys7 : List V} {s7 : Shared},Inv Y ([] ++ Vc fp s5.heap) τ7 H7 s7 -> N ys7 τ7 H7 -> ∃ m,m < n /\ ∃ i ys τ' H',Inv Y [] τ' H' s7 /\ tn i s7.heap /\ (∀ b ∈ fp,H' b = none) /\ W i m ys τ' H' := fun {τ7 H7 ys7 s7} I7 n7 => by
    obtain ⟨m',hm,w7⟩ := hN ys7 τ7 H7 n7
    refine ⟨m',hm,i + 1,ys7,τ7,H7,I7.unpinned,T.keep _ _ _ st5 fun b hb o e => (I7.pin (b,o) (List.mem_append_right _ (List.mem_append_right _ (Ig hb e)))).1,fun b hb => ?_,w7⟩
    obtain ⟨o,e,d⟩ := T.obj _ _ st5 b hb
    exact (I7.pin (b,o) (List.mem_append_right _ (List.mem_append_right _ (Ig hb e)))).2.1
   refine wpAny_bind (wpAny_mono (hg _ s5 τ3 H5 x u _ I5' r5 (step x H5 y5)) (fun _ s6 ⟨τ6,H6,I6,q6⟩ => ?_) fun _ _ z => no z)
   refine wpAny_bind (wpAny_mono (ht _ s6 τ6 H6 _ I6 q6) (fun ok s7 ⟨H7,I7,q7⟩ => ?_) fun _ _ z => no z)
   cases ok with
   | false =>
     have q8 : N ys τ6 H7 := by simpa using q7
     exact wpAny_pure ⟨rfl,again I7 q8⟩
   | true =>
     have q8 : te τ6 H7 fun y H4 => H4 D = some (.lst ys) /\ ys.length < sizeLine /\ N (ys ++ [y]) τ6 (upd H4 D (.lst (ys ++ [y]))) := by simpa using q7
     refine wpAny_bind (wpAny_bind (wpAny_mono (he _ s7 τ6 H7 _ I7 q8) (fun y s8 ⟨v8,H8,I8,r8,hD,hl,n8⟩ => ?_) fun _ _ z => no z))
     refine wpAny_bind (wpAny_mono (Ce _ s8 τ6 H8 (.ref D) [v8] (.ref D) [y] (fun _ H9 => N (ys ++ [v8]) τ6 H9) I8 rfl (.cons r8 .nil) ⟨D,ys,v8,rfl,rfl,hD,hl,n8⟩) (fun _ s9 ⟨_,H9,I9,_,n9⟩ => ?_) fun _ _ z => no z)
     exact wpAny_pure (wpAny_pure ⟨rfl,again I9 n9⟩)
theorem Rx {pins : List (Addr × Obj)} {σ : St} {H : Hp} {s : Shared} {J : It} {fp : List Addr} {it : Addr} {tn : Nat -> Heap -> Prop} {RR : Value -> Addr -> Result -> Shared -> Prop} {Q : Addr -> Hp -> Prop} {E : Value -> Shared -> Prop}
 (c : W9 X sc N' cap) (hc : X.calm = true) (hg : ∀ C s₀ H₀ fp,PG (Dq X sc N' C s₀ H₀ fp) tg g) (ht : ∀ C s₀ H₀ fp,PTs (Dq X sc N' C s₀ H₀ fp) ifs tc) (he : ∀ C s₀ H₀ fp,PE (Dq X sc N' C s₀ H₀ fp) elt te)
 (I : Inv X pins σ H s) (T : Turn X.prog X.w X.K tg J fp it tn) (st : tn 0 s.heap) (hf : ∀ b ∈ fp,FpOk X pins H b)
 (h : ∀ D,H D = none -> RunC J g tc te D (Q D) (capS cap σ) (upd H D (.lst [])))
 (hR : ∀ D C s' H' m',H D = none -> s.heap.objs.size <= C -> s'.os = s.os -> AllBare s'.gens -> Un (frs X.stack) fp H H' s.heap s'.heap -> HOk X.prog X.w H' s'.heap -> s'.heap.Ns C m' -> H' C = none -> C ∉ fp -> Q D H' -> RR (.ref D) C (.ok .next) s') :
 wpAny (model X.prog X.w) X.A (newList []) (fun acc s₃ => wpAny (model X.prog X.w) X.A (newFunctionEnv sc X.env.globals (clOf X.env.cells sc.names []) [] X.env.qual none .none (some X.env)) (fun cenv s₄ =>
  codeAny (model X.prog X.w) X.A (.compStart (.ListComp elt [⟨tg,iter,ifs,0⟩] sc pos) 0 (.ref it) acc { cenv with scope := relabel sc X.env }) (RR acc cenv.locals) s₄) E s₃) E s := by
 have hb : ∀ b ∈ fp,b < s.heap.objs.size := fun b hb => by
  obtain ⟨o,e,_⟩ := T.obj _ _ st b hb
  exact Heap.lt_size e
 refine wpAny_newObj_type (wpAny_newFunctionEnv c.nocell (by intro y hy; simp at hy) (fun h₁ hns₁ hsb₁ => ?_) c.kind)
 dsimp only at hns₁ hsb₁ ⊢
 generalize hH2 : s.heap.push { cls := .type "list",dict := none,data := .seq ([] : List Value).toArray } = H2 at hns₁ hsb₁ ⊢
 have hC : H2.objs.size = s.heap.objs.size + 1 := by rw [← hH2,Heap.size_push]
 have hCl : s.heap.objs.size <= H2.objs.size := by rw [hC]; exact Nat.le_succ _
 have hCn : s.heap.objs.size ≠ H2.objs.size := by rw [hC]; exact (Nat.succ_ne_self _).symm
 have old : ∀ b o,s.heap.get? b = some o -> h₁.get? b = some o := fun b o e => by
  have l1 := Heap.lt_size e
  exact hsb₁.extBut b o (Nat.ne_of_lt (Nat.lt_of_lt_of_le l1 hCl)) (Heap.get?_push_of_some _ (hH2 ▸ Heap.get?_push_of_some _ e))
 have hl : h₁.get? s.heap.objs.size = some { cls := .type "list",data := .seq #[] 0 } := hsb₁.extBut _ _ hCn (Heap.get?_push_of_some _ (hH2 ▸ Heap.get?_push_size _ rfl))
 have hns₂ : h₁.Ns H2.objs.size fun _ => none := by simpa using hns₁
 have I4 : Inv (Dq X sc N' H2.objs.size s H fp) [] (capS cap σ) (upd H s.heap.objs.size (.lst [])) { s with heap := h₁,toks := s.toks + ([] : List (Str × Value)).length } := As3 c I hC rfl hf hb hns₂ hl old
 have hfr : H s.heap.objs.size = none := I.fresh
 have f4 : ∀ b ∈ fp,FpOk (Dq X sc N' H2.objs.size s H fp) [] (upd H s.heap.objs.size (.lst [])) b := fun b hb' => by
  obtain ⟨f0,f1,f2,f3,f4,f5⟩ := hf b hb'
  have lb := hb b hb'
  refine ⟨by rw [Ae (Nat.ne_of_lt lb)]; exact f0,(Nat.ne_of_lt (Nat.lt_of_lt_of_le lb hCl) : b ≠ H2.objs.size),fun z => ?_,.inl hb',fun x a e => f4 x a (B2 (c.cells I.ok) (fun z => by simp at z) e),fun p hp => absurd hp (by simp [Dq])⟩
  rcases List.mem_cons.mp (I.stkSub b z) with e | e
  . exact f1 e
  . exact f2 e
 have st4 : tn 0 h₁ := T.keep _ _ _ st fun b _ o e => old b o e
 have loop : ∀ s₅ : Shared,s₅ = { s with heap := h₁,toks := s.toks + ([] : List (Str × Value)).length } →
  codeAny (model X.prog X.w) X.A (.compLoop (.ListComp elt [⟨tg,iter,ifs,0⟩] sc pos) 0 (.ref it) (.ref s.heap.objs.size) (Dq X sc N' H2.objs.size s H fp).env) (RR (.ref s.heap.objs.size) H2.objs.size) s₅ := by
  rintro s₅ rfl
  refine Wd (Y := Dq X sc N' H2.objs.size s H fp) (J := J) (fp := fp) (tn := tn) (Q := Q s.heap.objs.size) rfl hc (hg _ _ _ _) (ht _ _ _ _) (he _ _ _ _) T st4 f4 I4 (h _ hfr) fun τ' H' s' I' q' => ?_
  obtain ⟨m',hn',_⟩ := I'.loc
  exact hR _ _ s' H' m' hfr hCl I'.os I'.bare I'.base I'.hok hn' I'.free (fun z => absurd (Nat.lt_of_lt_of_le (hb _ z) hCl) (Nat.lt_irrefl _)) q'
 exact codeAny_compStart_list (loop _ rfl) (T.self _ 0 _ _ _ st4 (loop _ rfl))
def Av0 (wi : TI) (cap : List (Option Nat)) (g : TG) (tc : TT) (te : TE) : TE := fun σ H Q => wi σ H fun J H1 => ∀ D,H1 D = none -> RunC J g tc te D (fun H' => Q (.ref D) H') (capS cap σ) (upd H1 D (.lst []))
theorem Inv.fpCh {pins : List (Addr × Obj)} {H : Hp} {fp : List Addr} (hf : ∀ b ∈ fp,FpOk X pins H b) : ∀ b ∈ fp,(b ∈ X.ex \/ X.s₀.heap.objs.size <= b) /\ b ≠ X.env.locals /\ (∀ x c,X.env.cells.lookup x = some c -> c ≠ b) /\ ∀ p ∈ X.pn ++ pins,p.1 ≠ b :=
 fun b hb => let ⟨_,f1,_,f3,f4,f5⟩ := hf b hb; ⟨f3,f1,f4,f5⟩
theorem Cr {wi : TI} (hc : X.calm = true) (hcap : capB X.env.scope X.N sc N' cap = true) (hi : PI X tg iter wi) (hg : ∀ C s₀ H₀ fp,PG (Dq X sc N' C s₀ H₀ fp) tg g) (ht : ∀ C s₀ H₀ fp,PTs (Dq X sc N' C s₀ H₀ fp) ifs tc)
 (he : ∀ C s₀ H₀ fp,PE (Dq X sc N' C s₀ H₀ fp) elt te) (hs : ∀ x,foldedSetIterable iter X.env x = pure x := by intro _; rfl) : PE X (.ListComp elt [⟨tg,iter,ifs,0⟩] sc pos) (Av0 wi cap g tc te) := by
 intro pins s σ H Q I h
 have c : W9 X sc N' cap := Al2 hcap
 rw [eval_ListComp]
 refine wpAny_comprehension_free (use := none) rfl hs (Mo (c.cells I.ok)) c.kind c.locals (thn (hi pins s σ H _ I h) fun v s1 h1 => thn h1 fun itv s2 h2 => ?_)
 obtain ⟨it,fp,tn,J,H2,e,I2,T,st2,f2,hW⟩ := h2
 subst e
 refine Rx (RR := fun acc C => compPost (model X.prog X.w) X.A X.xe none (EP X pins σ Q) acc C) (Q := fun D H' => Q (.ref D) H') c hc hg ht he I2 T st2 f2 hW ?_
 intro D C s' H' m' hD hC hos hbare hun hok hn hHC hCf q
 refine ⟨m',hn,fun h' hsb => ?_⟩
 have I3 : Inv X pins σ H' s' := I2.call' hos hun hok hbare (Inv.fpCh f2)
 have f3 : FpOk X pins H' C := I2.fpOk hC hHC
 obtain ⟨_,k1,_,k3,k4,k5⟩ := f3
 have I4 : Inv X pins σ H' { s' with heap := h' } := I3.turned (t' := s'.toks) (fun b o hb e => (hsb.2 b hb).trans e) hHC k1 k3 k4 k5
 exact ⟨.ref D,H',I4,rfl,q⟩
theorem S9 {wi : TI} {i : Nat} {x : Str} {px spos : Pos} (hN : X.N.Nodup) (hi' : X.N[i]? = some x) (hx : Loc X.env.scope x) (hc : X.calm = true) (hcap : capB X.env.scope X.N sc N' cap = true) (hi : PI X tg iter wi)
 (hg : ∀ C s₀ H₀ fp,PG (Dq X sc N' C s₀ H₀ fp) tg g) (ht : ∀ C s₀ H₀ fp,PTs (Dq X sc N' C s₀ H₀ fp) ifs tc) (he : ∀ C s₀ H₀ fp,PE (Dq X sc N' C s₀ H₀ fp) elt te)
 (hsw : swapsWith (.ListComp elt [⟨tg,iter,ifs,0⟩] sc pos) (some (.Name x px)) spos.line X.env = pure true := by rfl)
 (hs : ∀ x,foldedSetIterable iter X.env x = pure x := by intro _; rfl) (hf : X.fn x = true \/ X.env.scope.names.lookup x = some .local := by first | exact .inl rfl | exact .inr rfl | assumption) :
 PS X (.Assign [.Name x px] (.ListComp elt [⟨tg,iter,ifs,0⟩] sc pos) spos) (tAsg (Av0 wi cap g tc te) (j8 i)) := by
 intro pins s σ H D I h
 have c : W9 X sc N' cap := Al2 hcap
 rw [exec_Assign_Name_used _ _ _ _ hsw]
 refine wpAny_bind (wpAny_standAt (wpAny_bind ?_))
 show wpAny _ X.A (do let _ ← comprehension (.ListComp elt [⟨tg,iter,ifs,0⟩] sc pos) sc X.env _ (newList []) false (eval iter X.env) (some (assign (.Name x px) X.env))) _ _ s
 refine wpAny_bind (thn (wpAny_comprehension_free (use := some (assign (.Name x px) X.env)) (Q := fun _ s' => SP X pins D .next s') rfl hs (Mo (c.cells I.ok)) c.kind c.locals
  (thn (hi pins s σ H _ I h) fun v s1 h1 => thn h1 fun itv s2 h2 => ?_)) fun _ s' hq => wpAny_pure (wpAny_pure hq))
 obtain ⟨it,fp,tn,J,H2,e,I2,T,st2,f2,hW⟩ := h2
 subst e
 refine Rx (RR := fun acc C => compPost (model X.prog X.w) X.A X.xe (some (assign (.Name x px) X.env)) (fun _ s' => SP X pins D .next s') acc C) (Q := fun A H' => j8 i (.ref A) σ H' D.nx) c hc hg ht he I2 T st2 f2 hW ?_
 intro A C s' H' m' hD hC hos hbare hun hok hn hHC hCf q
 have I3 : Inv X pins σ H' s' := I2.call' hos hun hok hbare (Inv.fpCh f2)
 have f3 : FpOk X pins H' C := I2.fpOk hC hHC
 obtain ⟨_,k1,_,k3,k4,k5⟩ := f3
 show wpAny _ X.A (assign (.Name x px) X.env (.ref A)) _ _ s'
 refine wpAny_assign_Name (Np I3 hN hi' hx (v := .ref A) rfl (fun s'' I'' ⟨a,hsb,ha⟩ => ?_) hf)
 have hCa : C ≠ a := by
  rcases ha with z | z
  . rw [z]; exact k1
  . exact fun z' => k4 x a z z'.symm
 refine ⟨m',hn.sameBut hsb hCa,fun h' hsb' => ?_⟩
 have I4 : Inv X pins (σ.set i (some (.ref A))) H' { s'' with heap := h' } := I''.turned (t' := s''.toks) (fun b o hb e => (hsb'.2 b hb).trans e) hHC k1 k3 k4 k5
 exact ⟨_,H',I4,q⟩
end
section
variable {g : TG} {tc : TT} {te : TE} {D : Addr} {Q : Hp -> Prop} {τ : St} {H : Hp}
theorem We {K : W.Frag} {a : Addr} {xs : List V} (Pv : Nat -> List V -> St -> Hp -> Prop) (h0 : Pv 0 [] τ H) (hl : ∀ i ys τ H,i <= xs.length -> Pv i ys τ H -> SqL K H a xs)
 (hs : ∀ i x ys τ H,xs[i]? = some x -> Pv i ys τ H -> g x τ H fun τ2 H2 => tc τ2 H2 fun b H3 => if b = true then te τ2 H3 fun y H4 => H4 D = some (.lst ys) /\ ys.length < sizeLine /\ Pv (i + 1) (ys ++ [y]) τ2 (upd H4 D (.lst (ys ++ [y]))) else Pv (i + 1) ys τ2 H3)
 (hd : ∀ ys τ H,Pv xs.length ys τ H -> Q H) : RunC (Itl K a) g tc te D Q τ H := by
 refine ⟨fun i m ys τ H => m = xs.length - i /\ i <= xs.length /\ Pv i ys τ H,⟨xs.length,by simp,Nat.zero_le _,h0⟩,?_⟩
 rintro i m ys τ H ⟨rfl,hi,p⟩
 have q := hl i ys τ H hi p
 by_cases hlt : i < xs.length
 . refine .inr ⟨⟨xs,xs[i],q,by simp [hlt]⟩,Pv (i + 1),fun ys' τ' H' p' => ⟨xs.length - (i + 1),by omega,rfl,hlt,p'⟩,fun x H' y => ?_⟩
   obtain ⟨e,y⟩ := y
   subst e
   exact hs i x ys τ _ (y xs q) p
 . have e : i = xs.length := by omega
   subst e
   exact .inl ⟨⟨xs,q,Nat.le_refl _⟩,hd ys τ H p⟩
theorem As1 {K : W.Frag} {a : Addr} {xs : List V} (Pv : Nat -> List V -> St -> Hp -> Prop) (h0 : Pv 0 [] τ H) (hl : ∀ i ys τ H,i <= xs.length -> Pv i ys τ H -> SqT K H a xs)
 (hs : ∀ i x ys τ H,xs[i]? = some x -> Pv i ys τ H -> g x τ H fun τ2 H2 => tc τ2 H2 fun b H3 => if b = true then te τ2 H3 fun y H4 => H4 D = some (.lst ys) /\ ys.length < sizeLine /\ Pv (i + 1) (ys ++ [y]) τ2 (upd H4 D (.lst (ys ++ [y]))) else Pv (i + 1) ys τ2 H3)
 (hd : ∀ ys τ H,Pv xs.length ys τ H -> Q H) : RunC (Itt K a) g tc te D Q τ H := by
 refine ⟨fun i m ys τ H => m = xs.length - i /\ i <= xs.length /\ Pv i ys τ H,⟨xs.length,by simp,Nat.zero_le _,h0⟩,?_⟩
 rintro i m ys τ H ⟨rfl,hi,p⟩
 have q := hl i ys τ H hi p
 by_cases hlt : i < xs.length
 . refine .inr ⟨⟨xs,xs[i],q,by simp [hlt]⟩,Pv (i + 1),fun ys' τ' H' p' => ⟨xs.length - (i + 1),by omega,rfl,hlt,p'⟩,fun x H' y => ?_⟩
   obtain ⟨e,y⟩ := y
   subst e
   exact hs i x ys τ _ (y xs q) p
 . have e : i = xs.length := by omega
   subst e
   exact .inl ⟨⟨xs,q,Nat.le_refl _⟩,hd ys τ H p⟩
theorem Fh {lo : Int} {n : Nat} (Pv : Nat -> List V -> St -> Hp -> Prop) (h0 : Pv 0 [] τ H)
 (hs : ∀ i ys τ H,i < n -> Pv i ys τ H -> g (.int (lo + i)) τ H fun τ2 H2 => tc τ2 H2 fun b H3 => if b = true then te τ2 H3 fun y H4 => H4 D = some (.lst ys) /\ ys.length < sizeLine /\ Pv (i + 1) (ys ++ [y]) τ2 (upd H4 D (.lst (ys ++ [y]))) else Pv (i + 1) ys τ2 H3)
 (hd : ∀ ys τ H,Pv n ys τ H -> Q H) : RunC (Itr lo n) g tc te D Q τ H := by
 refine ⟨fun i m ys τ H => m = n - i /\ i <= n /\ Pv i ys τ H,⟨n,by simp,Nat.zero_le _,h0⟩,?_⟩
 rintro i m ys τ H ⟨rfl,hi,p⟩
 by_cases hlt : i < n
 . refine .inr ⟨hlt,Pv (i + 1),fun ys' τ' H' p' => ⟨n - (i + 1),by omega,rfl,hlt,p'⟩,fun x H' y => ?_⟩
   obtain ⟨e,y⟩ := y
   subst e y
   exact hs i ys τ _ hlt p
 . have e : i = n := by omega
   subst e
   exact .inl ⟨Nat.le_refl _,hd ys τ H p⟩
end
end L2
namespace L2
open PySem PySem.Spec PyProof.Rows PySem.SeqAt
def cK (ms : List (Int × Int)) : List (Key × V) := ms.map fun p => (Sum.inl p.1,V.int p.2)
def A0 (ms : List (Int × Int)) (k : Int) : Option Int := (ms.find? fun p => decide (p.1 = k)).map (·.2)
end L2
namespace L2
open PySem PySem.Spec PyProof.Rows
section
variable {prog : Program} {w : World} {A : Around} {E : Value -> Shared -> Prop}
theorem Vq : typeLookup (.type "list") "keys" = pure none := am_miss_of_fast (by kernel_rfl)
theorem Q4 {s : Shared} {a : Addr} {xs : Array Value} {k : Nat} {Q : Option Value -> Shared -> Prop}
 (hx : s.heap.get? a = some { cls := .type "list",data := .seq xs k }) (hA : A.handled = none)
 (h : ∀ h' tk,(∀ b o,s.heap.get? b = some o -> h'.get? b = some o) -> Q none { s with heap := h',toks := tk }) :
 wpAny (model prog w) A (getAttr? (.ref a) "keys") Q E s := by
 obtain ⟨hp,g,d,tk,os⟩ := s
 have hT : ∀ tk',(⟨hp,g,d,tk',os⟩ : Shared).TypeIs (.ref a) "list" := fun _ => ⟨_,hx,rfl⟩
 have f1 := sub_AttributeError
 have f3 := F.slot_list_getattribute.lookup
 have f4 := F.slot_list_getattribute.bind (.ref a)
 have f5 := am_list_getattr_none
 unfold getAttr? getAttrBy? getAttrBy
 repeat (any_goals (first | assumption | exact hT _ | ((with_reducible show wpAny _ _ (call (Value.builtin "list.__getattribute__") _ _) _ _ _); refine call_meets F.slot_list_getattribute (hT _) am_entry_list_getattribute (F.args_list_getattribute_2 _ _) (meets_getattribute_miss_list a xs k #[] "keys" _ Vq (by decide +kernel)) ⟨hx,hA,fun h' tk' e hx' => ?_⟩) | wp_step))
 obtain ⟨t',u',he⟩ := hx'.there
 show wpAny _ _ (getattributeRaised _ _ _ _ _ _ _) _ _ _
 unfold getattributeRaised
 repeat (any_goals (first | assumption | wp_step))
 exact h _ _ hx'.keeps
theorem Fz : plainId "dict.update.loop" = true := by decide +kernel
theorem O9 : entryFor table "dict.update.loop" = some Builtin.«dict.update.loop» := entryFor_of_fast (by kernel_rfl)
variable {KT : Type} [DecidableEq KT] {knd : KeyKind prog w KT}
def But2 (d it : Addr) (h0 h : Heap) : Prop := ∀ b o,b ≠ d -> b ≠ it -> h0.get? b = some o -> h.get? b = some o
theorem Ai6 (hh : A.handled = none) {d it l : Addr} {items : Array Value} {prs : List (KT × Value)} (hl : prs.length = items.size) (ndi : d ≠ it) (nld : l ≠ d) (nli : l ≠ it) {h0 : Heap} (hL : h0.IsList l items)
 (hP : ∀ (i : Nat) (x : Value),items[i]? = some x -> ∃ (p : KT × Value) (t : Addr) (key : Value),prs[i]? = some p /\ x = .ref t /\ t ≠ d /\ t ≠ it /\ h0.IsTuple t #[key,p.2] /\ knd.is p.1 key = true) {R : Result -> Shared -> Prop} :
 ∀ (n i : Nat) (s : Shared) (acc : List (KT × Value)),prs.length - i = n -> i <= prs.length -> acc.length + n <= sizeLine -> s.heap.DictOf knd d acc -> s.heap.IsListIter it l i -> But2 d it h0 s.heap →
   (∀ h' tk,h'.DictOf knd d (merged acc (prs.drop i)) -> But2 d it h0 h' -> R (.ok (.ret .none)) { s with heap := h',toks := tk }) →
   codeAny (model prog w) A (.builtin "dict.update.loop" ⟨[.ref d,.ref it,rawInt i,.none],[]⟩) R s := by
 intro n
 induction n with
 | zero =>
   intro i s acc hn hi hz hd hit hb k
   refine codeAny_builtin O9 ?_
   rw [Around.under_plainId Fz]
   have hLs : s.heap.IsList l items := let ⟨o,ho,r⟩ := hL; ⟨o,hb _ _ nld nli ho,r⟩
   have hx : items[i]? = none := by simp; omega
   show wpAny _ _ (pyNext (.ref it) >>= _) _ _ s
   refine wpAny_bind (wpAny_pyNext_list_end hh hit hLs hx fun h' he => ?_)
   show wpAny _ _ (Builtin.Dict.addKeywords d [] >>= _) _ _ _
   refine wpAny_bind (wpAny_pure (wpAny_pure ?_))
   have e : prs.drop i = [] := by simp; omega
   have k' := k h' s.toks (by rw [e]; exact hd.extBut he ndi) fun b o n1 n2 q => he b o n2 (hb b o n1 n2 q)
   exact k'
 | succ n ih =>
   intro i s acc hn hi hz hd hit hb k
   refine codeAny_builtin O9 ?_
   rw [Around.under_plainId Fz]
   have hLs : s.heap.IsList l items := let ⟨o,ho,r⟩ := hL; ⟨o,hb _ _ nld nli ho,r⟩
   have hlt : i < items.size := by omega
   obtain ⟨p,t,key,hp,ex,ntd,nti,hT,hkey⟩ := hP i items[i] (by simp [hlt])
   show wpAny _ _ (pyNext (.ref it) >>= _) _ _ s
   refine wpAny_bind (wpAny_pyNext_list_item hit hLs (x := items[i]) (by simp [hlt]) fun h1 hit1 hs1 => ?_)
   rw [ex]
   have hT1 : h1.IsTuple t #[key,p.2] := let ⟨o,ho,r⟩ := hT; ⟨o,(hs1.2 t nti).trans (hb _ _ ntd nti ho),r⟩
   have hd1 : h1.DictOf knd d acc := hd.sameBut hs1 ndi
   obtain ⟨o,ho,hc,m,hdat⟩ := hT1
   refine wpAny_bind (wpAny_holding ?_)
   refine wpAny_bind (wpAny_tryCatch ?_)
   unfold Builtin.Dict.pairItems
   refine wpAny_bind (wpAny_typeOf (show (({ s with heap := h1 } : Shared).TypeIs (.ref t) "tuple") from ⟨o,ho,hc⟩) ?_)
   rw [if_pos (by decide)]
   refine wpAny_bind (wpAny_seqItems ho hdat (wpAny_pure ?_))
   show wpAny _ _ (holding [key,p.2] (dictSet d key p.2)) _ _ _
   refine wpAny_holding (wpAny_dictSet_pairs (s := { s with heap := h1 }) hkey hd1 (fun h2 hd2 hs2 => ?_) (by omega))
   refine wpAny_pure ⟨plainId_quiet Fz _,?_⟩
   have e2 : prs.drop i = p :: prs.drop (i + 1) := by
    rw [List.drop_eq_getElem_cons (by omega)]
    congr 1
    rw [List.getElem?_eq_getElem (by omega)] at hp
    exact Option.some.inj hp
   have hl2 := stored_length_le acc p.1 p.2
   refine ih (i + 1) { s with heap := h2,toks := s.toks + 1 } (stored acc p.1 p.2) (by omega) (by omega) (by omega) hd2 ?_ (fun b o' n1 n2 q => ?_) (fun h' tk hd' hb' => k h' tk (by rw [e2]; exact hd') hb')
   . obtain ⟨oi,hoi,ri⟩ := hit1
     exact ⟨oi,(hs2.2 it (Ne.symm ndi)).trans hoi,ri⟩
   . exact (hs2.2 b n1).trans ((hs1.2 b n2).trans (hb b o' n1 n2 q))
end
theorem vals_pair {x y : V} {us : List Value} (r : Vals [x,y] us) : ∃ a b,us = [a,b] /\ RelV x a /\ RelV y b := by
 cases r with
 | cons h1 r =>
   cases r with
   | cons h2 r =>
     cases r
     exact ⟨_,_,rfl,h1,h2⟩
theorem Za {P : Program} {w : World} {H : Hp} {h : Heap} (hok : HOk P w H h) : ∀ (ts : List Addr) (kvs : List (Key × V)),ts.length = kvs.length -> (∀ (i : Nat) t,ts[i]? = some t -> ∃ kv : Key × V,kvs[i]? = some kv /\ H t = some (.tup [kV kv.1,kv.2])) →
 ∃ prs : List (Key × Value),KV kvs prs /\ prs.length = ts.length /\ ∀ (i : Nat) t,ts[i]? = some t -> ∃ (p : Key × Value) (key : Value),prs[i]? = some p /\ h.IsTuple t #[key,p.2] /\ (mixKind P w).is p.1 key = true
 | [],[],_,_ => ⟨[],.nil,rfl,fun i t e => by simp at e⟩
 | [],_ :: _,hl,_ => by simp at hl
 | _ :: _,[],hl,_ => by simp at hl
 | t :: ts,kv :: kvs,hl,hk => by
   obtain ⟨prs,h1,h2,h3⟩ := Za hok ts kvs (by simpa using hl) fun i t e => by
    obtain ⟨kv',e1,e2⟩ := hk (i + 1) t (by simpa using e)
    exact ⟨kv',by simpa using e1,e2⟩
   obtain ⟨kv',e1,e2⟩ := hk 0 t rfl
   have e1' : kv = kv' := by simpa using e1
   subst e1'
   obtain ⟨_,its,rv,o,ho,hc,hdn,n,hd⟩ := hok t _ e2
   obtain ⟨a,b,rfl,ra,rb⟩ := vals_pair rv
   refine ⟨(kv.1,b) :: prs,.cons ⟨rfl,rb⟩ h1,by simp [h2],fun i t' e => ?_⟩
   cases i with
   | zero =>
     have : t = t' := by simpa using e
     subst this
     exact ⟨(kv.1,b),a,rfl,⟨o,ho,hc,n,hd⟩,kV_is ra⟩
   | succ i =>
     obtain ⟨p,key,q1,q2,q3⟩ := h3 i t' (by simpa using e)
     exact ⟨p,key,by simpa using q1,q2,q3⟩
theorem R8 {X : Cx} (hc : X.calm = true) : Fp X (.type "dict") (fun xs H Q => ∃ (p : Addr) (ts : List Addr) (kvs : List (Key × V)),xs = [.ref p] /\ H p = some (.lst (ts.map V.ref)) /\ ts.length = kvs.length ∧
 (∀ (i : Nat) t,ts[i]? = some t -> ∃ kv : Key × V,kvs[i]? = some kv /\ H t = some (.tup [kV kv.1,kv.2])) /\ ∀ D,H D = none -> Q (.ref D) (upd H D (.dK (Fe [] kvs)))) := by
 intro pins s σ H xs us Q I r h
 obtain ⟨l,ts,kvs,rfl,hl,hlen,hk,q⟩ := h
 obtain ⟨u,rfl,ru⟩ := So r
 cases ru
 have hh : X.A.handled = none := I.ok.hd hc
 obtain ⟨hz,its,n,rv,ho⟩ := I.hok l _ hl
 rw [List.length_map] at hz
 have hil : its.length = ts.length := by rw [← rv.length,List.length_map]
 obtain ⟨prs,hkv,hpl,hP⟩ := Za I.hok ts kvs hlen hk
 have at_ : ∀ (i : Nat) (x : Value),its.toArray[i]? = some x -> ∃ t,ts[i]? = some t /\ x = .ref t := fun i x e => by
  have e' : its[i]? = some x := by simpa using e
  have hlt : i < its.length := (List.getElem?_eq_some_iff.mp e').1
  have hb : ts[i]? = some (ts[i]'(by omega)) := by simp <;> omega
  obtain ⟨u,hu,ru⟩ := rv.get (i := i) (x := V.ref (ts[i]'(by omega))) (by rw [List.getElem?_map,hb]; rfl)
  rw [e'] at hu
  cases hu
  cases ru
  exact ⟨_,hb,rfl⟩
 refine callType_codes (Q₁ := fun obj s₁ => obj = .ref s.heap.objs.size /\ s₁ = { s with heap := s.heap.push { cls := .type "dict",data := .dict #[] } }) PySem.F.kt_called_dict (PySem.F.kt_typeCall_dict_1 _) PySem.F.entry_dict_init (kt_code_dict_new _ ⟨rfl,rfl⟩) ?_
 rintro obj s₁ ⟨rfl,rfl⟩
 have hnew : (s.heap.push { cls := .type "dict",data := .dict #[] }).DictOf (mixKind X.prog X.w) s.heap.objs.size [] := Heap.DictOf.new s.heap
 refine ⟨hnew.typeIs,PySem.F.args_dict_init_2 _ _,?_⟩
 unfold Builtin.«dict.__init__»
 refine wpAny_bind ?_
 unfold Builtin.Dict.selfAndRest
 refine wpAny_bind (wpAny_notOrdered_dict hnew.typeIs ?_)
 show wpAny _ _ (pure (s.heap.objs.size,[Value.ref l])) _ _ _
 refine wpAny_pure ?_
 show wpAny _ _ (Builtin.Dict.updateFrom "dict.__init__" s.heap.objs.size (.ref l) [] .none) _ _ _
 unfold Builtin.Dict.updateFrom
 have ho1 : (s.heap.push { cls := .type "dict",data := .dict #[] }).get? l = some { cls := .type "list",data := .seq its.toArray n } := Heap.get?_push_of_some _ ho
 refine wpAny_bind (wpAny_typeOf (show (({ s with heap := s.heap.push { cls := .type "dict",data := .dict #[] } } : Shared).TypeIs (.ref l) "list") from ⟨_,ho1,rfl⟩) ?_)
 rw [if_pos (by decide)]
 refine wpAny_bind (Q4 ho1 hh fun h1 tk hk1 => ?_)
 rw [if_pos (show (none : Option Value).isNone = true from rfl)]
 refine wpAny_bind (wpAny_rule ?_)
 have hl1 : h1.IsList l its.toArray := ⟨_,hk1 _ _ ho1,rfl,n,rfl⟩
 refine wpAny_bind (wpAny_pyIter_list hl1 ?_)
 refine wpAny_pure ⟨plainId_quiet Fz _,?_⟩
 have lt0 : l < s.heap.objs.size := Heap.lt_size ho
 have nD : ∀ b o,s.heap.get? b = some o -> b ≠ s.heap.objs.size := fun b o e => Nat.ne_of_lt (Heap.lt_size e)
 have up : ∀ b o,s.heap.get? b = some o -> h1.get? b = some o := fun b o e => hk1 _ _ (Heap.get?_push_of_some _ e)
 have nI : ∀ b o,s.heap.get? b = some o -> b ≠ h1.objs.size := fun b o e => Nat.ne_of_lt (Heap.lt_size (up b o e))
 obtain ⟨oD,esD,epD,hoD,rD⟩ := id hnew
 have hD1 : h1.DictOf (mixKind X.prog X.w) s.heap.objs.size [] := ⟨oD,esD,epD,hk1 _ _ hoD,rD⟩
 have ndi : s.heap.objs.size ≠ h1.objs.size := Nat.ne_of_lt (Heap.lt_size (hk1 _ _ hoD))
 refine Ai6 (knd := mixKind X.prog X.w) (show X.A.in1.handled = none from hh) (prs := prs) (items := its.toArray) (l := l) (d := s.heap.objs.size) (it := h1.objs.size) (h0 := h1.push { cls := .type "list_iterator",data := .fields #[.ref l,.int 0 0] }) (by simp; omega) ndi (nD _ _ ho) (nI _ _ ho)
  ⟨_,Heap.get?_push_of_some _ (hk1 _ _ ho1),rfl,n,rfl⟩ (fun i x e => ?_) prs.length 0 _ [] (by omega) (by omega) ?_ (hD1.push _) ⟨_,Heap.get?_push_size _ rfl,rfl,rfl⟩ (fun b o _ _ e => e) (fun h' tk' hd' hb' => ?_)
 . obtain ⟨t,e1,rfl⟩ := at_ i x e
   obtain ⟨p,key,e2,⟨o,ho',r'⟩,e4⟩ := hP i t e1
   exact ⟨p,t,key,e2,rfl,nD _ _ ho',nI _ _ ho',⟨o,Heap.get?_push_of_some _ (up _ _ ho'),r'⟩,e4⟩
 . have e0 : ([] : List (Key × Value)).length = 0 := rfl
   omega
 . refine ⟨rfl,.ref s.heap.objs.size,upd H s.heap.objs.size (.dK (Fe [] kvs)),?_,rfl,q _ (I.hok.fresh (Nat.le_refl _))⟩
   have hzz : (Fe [] kvs).length <= sizeLine := by
    have h1 := F6 kvs []
    rw [List.length_nil] at h1
    omega
   refine I.laid (a := s.heap.objs.size) (o := .dK (Fe [] kvs)) (t' := tk') (fun b o e => hb' b o (nD _ _ e) (nI _ _ e) (Heap.get?_push_of_some _ (up _ _ e))) (Nat.le_refl _) (Pb hzz (beq_eq_false_iff_ne.mpr (Ne.symm (Nat.ne_of_lt I.big))) (hkv.merge .nil) ?_)
   simpa using hd'
theorem Hf : ∀ (more kvs : List (Key × V)),((kvs ++ more).map (·.1)).Nodup -> Fe kvs more = kvs ++ more
 | [],kvs,_ => by simp [Fe]
 | p :: more,kvs,h => by
   have hnot : (kvs.any fun kv => decide (kv.1 = p.1)) = false := by
    rw [List.any_eq_false]
    intro kv hkv hd
    have e : kv.1 = p.1 := by simpa using hd
    rw [List.map_append,List.nodup_append] at h
    exact h.2.2 kv.1 (List.mem_map_of_mem hkv) p.1 (by simp) e
   have e : putK kvs p.1 p.2 = kvs ++ [p] := by
    unfold putK
    rw [if_neg (by rw [hnot]; decide)]
   show Fe (putK kvs p.1 p.2) more = _
   rw [e,Hf more (kvs ++ [p]) (by simpa using h)]
   simp
end L2
namespace L2
open PySem PySem.Spec PyProof.Rows PySem.SeqAt
end L2
namespace L2
open PySem PySem.Spec PyProof.Rows PySem.SeqAt
inductive D where
 | non | bl (b : Bool) | int (i : Int) | str (x : Str) | tup (ds : List D) | lst (ds : List D)
mutual
def Rep (K : W.Frag) (H : Hp) : V -> D -> Prop
 | v,.non => v = .non
 | v,.bl b => v = .bl b
 | v,.int i => v = .int i
 | v,.str x => v = .str x
 | v,.tup ds => ∃ a vs,v = .ref a /\ SqT K H a vs /\ Reps K H vs ds
 | v,.lst ds => ∃ a vs,v = .ref a /\ SqL K H a vs /\ Reps K H vs ds
def Reps (K : W.Frag) (H : Hp) : List V -> List D -> Prop
 | vs,[] => vs = []
 | vs,d :: ds => ∃ v r,vs = v :: r /\ Rep K H v d /\ Reps K H r ds
end
mutual
def imm : D -> Bool
 | .lst _ => false
 | .tup ds => imms ds
 | _ => true
def imms : List D -> Bool
 | [] => true
 | d :: ds => imm d && imms ds
end
mutual
def dep : D -> Nat
 | .lst ds => deps ds + 1
 | .tup ds => deps ds + 1
 | _ => 0
def deps : List D -> Nat
 | [] => 0
 | d :: ds => max (dep d) (deps ds)
end
mutual
def eqD : D -> D -> Bool
 | .non,.non => true
 | .bl a,.bl b => a == b
 | .bl a,.int b => (if a then 1 else 0) == b
 | .int a,.bl b => a == (if b then 1 else 0)
 | .int a,.int b => a == b
 | .str a,.str b => a == b
 | .tup a,.tup b => eqDs a b
 | .lst a,.lst b => eqDs a b
 | _,_ => false
def eqDs : List D -> List D -> Bool
 | [],[] => true
 | a :: r,b :: q => eqD a b && eqDs r q
 | _,_ => false
end
mutual
theorem Ku (d : D) : eqD d d = true := by
 cases d with
 | non => rfl
 | bl b => simp [eqD]
 | int b => simp [eqD]
 | str b => simp [eqD]
 | tup ds => simp only [eqD]; exact eqDs_refl ds
 | lst ds => simp only [eqD]; exact eqDs_refl ds
theorem eqDs_refl (ds : List D) : eqDs ds ds = true := by
 cases ds with
 | nil => rfl
 | cons d r => simp only [eqDs,Bool.and_eq_true]; exact ⟨Ku d,eqDs_refl r⟩
end
theorem eqDs_len : ∀ {a b : List D},eqDs a b = true -> a.length = b.length
 | [],[],_ => rfl
 | [],_ :: _,h => by simp [eqDs] at h
 | _ :: _,[],h => by simp [eqDs] at h
 | x :: a,y :: b,h => by
   simp only [eqDs,Bool.and_eq_true] at h
   rw [List.length_cons,List.length_cons,eqDs_len h.2]
theorem Kt : ∀ (a b : List D),a.length = b.length -> eqDs a b = (List.range a.length).all fun j => match a[j]?,b[j]? with | some x,some y => eqD x y | _,_ => true
 | [],[],_ => by simp [eqDs]
 | [],_ :: _,h => by simp at h
 | _ :: _,[],h => by simp at h
 | x :: a,y :: b,h => by
   have h' : a.length = b.length := by simpa using h
   rw [List.length_cons,List.range_succ_eq_map,List.all_cons,List.all_map]
   simp only [eqDs,Kt a b h']
   congr 1
structure K8 (H H' : Hp) : Prop where
 tup : ∀ b xs,H b = some (.tup xs) -> H' b = some (.tup xs)
 frz : ∀ b o u,H b = some (.frz o u) -> H' b = some (.frz o u)
section
variable {K : W.Frag} {H H' H1 H2 : Hp} {a l p : Addr} {xs : List V} {o : HO}
theorem Same.t (x : Same H H') : K8 H H' := ⟨fun b xs h => x b _ h,fun b o u h => x b _ h⟩
theorem K8.lst (h : H l = some (.lst xs)) : K8 H (upd H l o) := ⟨fun b ys e => by rw [Ae (F3 e h (by intro z; cases z))]; exact e,fun b ob u e => by rw [Ae (F3 e h (by intro z; cases z))]; exact e⟩
theorem Same.new (h : H l = none) : Same H (upd H l o) := fun b u e => by rw [Ae (Ak e h)]; exact e
theorem Same.turn (x : Same H H1) (h : H l = none) : Same H (upd H1 l o) := fun b u e => by rw [Ae (Ak e h)]; exact x b u e
theorem SqT.t (x : K8 H H') (h : SqT K H a xs) : SqT K H' a xs := by
 rcases h with (h | ⟨o,h⟩) | h
 . exact .inl (.inl (x.tup _ _ h))
 . exact .inl (.inr ⟨o,x.frz _ _ _ h⟩)
 . exact .inr h
theorem Same.seqT (x : Same H H') (h : SqT K H a xs) : SqT K H' a xs := h.t x.t
mutual
theorem Rep.t (x : K8 H H') {v : V} {d : D} (hi : imm d = true) (h : Rep K H v d) : Rep K H' v d := by
 cases d with
 | non => exact h
 | bl b => exact h
 | int i => exact h
 | str x => exact h
 | tup ds =>
   obtain ⟨a,vs,e,q,r⟩ := h
   exact ⟨a,vs,e,q.t x,Reps.t x (by simpa [imm] using hi) r⟩
 | lst ds => simp [imm] at hi
theorem Reps.t (x : K8 H H') {vs : List V} {ds : List D} (hi : imms ds = true) (h : Reps K H vs ds) : Reps K H' vs ds := by
 cases ds with
 | nil => exact h
 | cons d r =>
   obtain ⟨v,q,e,h1,h2⟩ := h
   simp only [imms,Bool.and_eq_true] at hi
   exact ⟨v,q,e,Rep.t x hi.1 h1,Reps.t x hi.2 h2⟩
end
mutual
theorem Rep.same (x : Same H H') {v : V} {d : D} (h : Rep K H v d) : Rep K H' v d := by
 cases d with
 | non => exact h
 | bl b => exact h
 | int i => exact h
 | str x => exact h
 | tup ds =>
   obtain ⟨a,vs,e,q,r⟩ := h
   exact ⟨a,vs,e,x.seqT q,Reps.same x r⟩
 | lst ds =>
   obtain ⟨a,vs,e,q,r⟩ := h
   exact ⟨a,vs,e,x.seq q,Reps.same x r⟩
theorem Reps.same (x : Same H H') {vs : List V} {ds : List D} (h : Reps K H vs ds) : Reps K H' vs ds := by
 cases ds with
 | nil => exact h
 | cons d r =>
   obtain ⟨v,q,e,h1,h2⟩ := h
   exact ⟨v,q,e,Rep.same x h1,Reps.same x h2⟩
end
theorem Reps.length : ∀ {vs : List V} {ds : List D},Reps K H vs ds -> vs.length = ds.length
 | vs,[],h => by cases (show vs = [] from h); rfl
 | vs,d :: ds,h => by
   obtain ⟨v,r,rfl,_,h2⟩ := h
   rw [List.length_cons,List.length_cons,Reps.length h2]
theorem Reps.get : ∀ {vs : List V} {ds : List D} {i : Nat} {d : D},Reps K H vs ds -> ds[i]? = some d -> ∃ v,vs[i]? = some v /\ Rep K H v d
 | vs,[],i,d,h,e => by simp at e
 | vs,d0 :: ds,0,d,h,e => by
   obtain ⟨v,r,rfl,h1,_⟩ := h
   simp only [List.getElem?_cons_zero,Option.some.injEq] at e
   subst e
   exact ⟨v,by simp,h1⟩
 | vs,d0 :: ds,i + 1,d,h,e => by
   obtain ⟨v,r,rfl,_,h2⟩ := h
   obtain ⟨u,e1,e2⟩ := Reps.get (i := i) h2 (by simpa using e)
   exact ⟨u,by simpa using e1,e2⟩
theorem Reps.getV : ∀ {vs : List V} {ds : List D} {i : Nat} {v : V},Reps K H vs ds -> vs[i]? = some v -> ∃ d,ds[i]? = some d /\ Rep K H v d := fun {vs ds i v} h e => by
 have hl := h.length
 have hi : i < vs.length := (List.getElem?_eq_some_iff.mp e).1
 obtain ⟨d,hd⟩ : ∃ d,ds[i]? = some d := ⟨ds[i]'(by omega),by simp <;> omega⟩
 obtain ⟨u,e1,e2⟩ := h.get hd
 rw [e] at e1
 cases e1
 exact ⟨d,hd,e2⟩
theorem Reps.append : ∀ {vs ws : List V} {ds es : List D},Reps K H vs ds -> Reps K H ws es -> Reps K H (vs ++ ws) (ds ++ es)
 | vs,ws,[],es,h,h' => by cases (show vs = [] from h); exact h'
 | vs,ws,d :: ds,es,h,h' => by
   obtain ⟨v,r,rfl,h1,h2⟩ := h
   exact ⟨v,r ++ ws,rfl,h1,Reps.append h2 h'⟩
theorem Reps.one {v : V} {d : D} (h : Rep K H v d) : Reps K H [v] [d] := ⟨v,[],rfl,h,rfl⟩
theorem Reps.snoc {vs : List V} {ds : List D} {v : V} {d : D} (h : Reps K H vs ds) (h' : Rep K H v d) : Reps K H (vs ++ [v]) (ds ++ [d]) := h.append (.one h')
def nums (ns : List Int) : List D := ns.map D.int
abbrev tI (ns : List Int) : D := .tup (nums ns)
theorem V0 : ∀ ns : List Int,imms (nums ns) = true
 | [] => rfl
 | n :: ns => by show (imm (.int n) && imms (nums ns)) = true; rw [V0 ns]; rfl
theorem Ah0 (ns : List Int) : imm (tI ns) = true := V0 ns
theorem Ih : ∀ xs : List (List Int),imms (xs.map tI) = true
 | [] => rfl
 | x :: xs => by show (imm (tI x) && imms (xs.map tI)) = true; rw [Ih xs,Ah0]; rfl
theorem V3 : ∀ a b : List Int,eqDs (nums a) (nums b) = decide (a = b)
 | [],[] => by simp [nums,eqDs]
 | [],_ :: _ => by simp [nums,eqDs]
 | _ :: _,[] => by simp [nums,eqDs]
 | x :: a,y :: b => by
   show (eqD (.int x) (.int y) && eqDs (nums a) (nums b)) = _
   rw [V3 a b]
   simp only [eqD]
   by_cases e : x = y
   . subst e; by_cases e2 : a = b <;> simp [e2]
   . simp [e]
theorem At9 (a b : List Int) : eqD (tI a) (tI b) = decide (a = b) := by simp only [eqD]; exact V3 a b
theorem Fa : ∀ {vs : List V} {ns : List Int},Reps K H vs (nums ns) ↔ vs = ns.map V.int
 | vs,[] => Iff.rfl
 | vs,n :: ns => by
   constructor
   . rintro ⟨v,r,rfl,h1,h2⟩
     have h1' : v = .int n := h1
     rw [h1',Fa.mp h2]; rfl
   . rintro rfl
     exact ⟨.int n,ns.map V.int,rfl,rfl,Fa.mpr rfl⟩
end
section
variable {X : Cx} {pins : List (Addr × Obj)} {σ : St} {H : Hp} {s : Shared}
theorem Ae3 (I : Inv X pins σ H s) {a : Addr} {xs ys : List V} (h : SqT X.K H a xs) (h' : SqL X.K H a ys) : False := by
 obtain ⟨its,r,⟨o,e,c,n,d⟩,_⟩ := I.tuple h
 obtain ⟨its',r',⟨o',n',e',c',_,d'⟩,_⟩ := I.list h'
 rw [e] at e'; cases e'
 rw [c] at c'
 have z : ("tuple" : String) = "list" := by injection c'
 exact absurd z (by decide)
mutual
theorem Rep.inj (I : Inv X pins σ H s) {v : V} {d e : D} (h : Rep X.K H v d) (h' : Rep X.K H v e) : d = e := by
 cases d with
 | non => cases (show v = .non from h); cases e <;> first | rfl | (exfalso; first | (cases (show V.non = _ from h')) | (obtain ⟨_,_,z,_⟩ := h'; cases z))
 | bl b => cases (show v = .bl b from h); cases e <;> first | (cases (show V.bl b = _ from h'); rfl) | (exfalso; first | (cases (show V.bl b = _ from h')) | (obtain ⟨_,_,z,_⟩ := h'; cases z))
 | int b => cases (show v = .int b from h); cases e <;> first | (cases (show V.int b = _ from h'); rfl) | (exfalso; first | (cases (show V.int b = _ from h')) | (obtain ⟨_,_,z,_⟩ := h'; cases z))
 | str b => cases (show v = .str b from h); cases e <;> first | (cases (show V.str b = _ from h'); rfl) | (exfalso; first | (cases (show V.str b = _ from h')) | (obtain ⟨_,_,z,_⟩ := h'; cases z))
 | tup ds =>
   obtain ⟨a,vs,rfl,q,r⟩ := h
   cases e with
   | tup es =>
     obtain ⟨b,ws,z,q',r'⟩ := h'
     cases z
     have e1 := I.tuple_inj q q'
     subst e1
     rw [Reps.inj I r r']
   | lst es =>
     obtain ⟨b,ws,z,q',r'⟩ := h'
     cases z
     exact (Ae3 I q q').elim
   | non => cases (show V.ref a = _ from h')
   | bl _ => cases (show V.ref a = _ from h')
   | int _ => cases (show V.ref a = _ from h')
   | str _ => cases (show V.ref a = _ from h')
 | lst ds =>
   obtain ⟨a,vs,rfl,q,r⟩ := h
   cases e with
   | lst es =>
     obtain ⟨b,ws,z,q',r'⟩ := h'
     cases z
     have e1 := I.list_inj q q'
     subst e1
     rw [Reps.inj I r r']
   | tup es =>
     obtain ⟨b,ws,z,q',r'⟩ := h'
     cases z
     exact (Ae3 I q' q).elim
   | non => cases (show V.ref a = _ from h')
   | bl _ => cases (show V.ref a = _ from h')
   | int _ => cases (show V.ref a = _ from h')
   | str _ => cases (show V.ref a = _ from h')
theorem Reps.inj (I : Inv X pins σ H s) {vs : List V} {ds es : List D} (h : Reps X.K H vs ds) (h' : Reps X.K H vs es) : ds = es := by
 cases ds with
 | nil =>
   cases (show vs = [] from h)
   cases es with
   | nil => rfl
   | cons e es => obtain ⟨_,_,z,_⟩ := h'; cases z
 | cons d ds =>
   obtain ⟨v,r,rfl,h1,h2⟩ := h
   cases es with
   | nil => cases (show v :: r = [] from h')
   | cons e es =>
     obtain ⟨v',r',z,h1',h2'⟩ := h'
     cases z
     rw [Rep.inj I h1 h1',Reps.inj I h2 h2']
end
def EqD (X : Cx) (H : Hp) (s : Shared) (d : D) : Prop := ∀ (A : Around) (x y : V) (u v : Value) (e : D),A.units + dep d < cLine -> Rep X.K H x d -> Rep X.K H y e -> RelV x u -> RelV y v -> RcAt A s u v (eqD d e) /\ EqAt A s u v (eqD d e)
theorem Y3 (I : Inv X pins σ H s) {ds es : List D} {vs ws : List V} {us us' : List Value} {A : Around} (hu : A.units + deps ds < cLine) (r : Reps X.K H vs ds) (r' : Reps X.K H ws es) (rv : Vals vs us) (rv' : Vals ws us')
 (ih : ∀ d ∈ ds,EqD X H s d) (hdm : ∀ d ∈ ds,dep d <= deps ds) : ∀ j (h1 : j < us.toArray.size) (h2 : j < us'.toArray.size),EqAt A s us.toArray[j] us'.toArray[j] (match ds[j]?,es[j]? with | some x,some y => eqD x y | _,_ => true) := by
 intro j h1 h2
 have l1 := r.length
 have l2 := r'.length
 have l3 := rv.length
 have l4 := rv'.length
 have h1' : j < us.length := by simpa using h1
 have h2' : j < us'.length := by simpa using h2
 have e1 : ds[j]? = some (ds[j]'(by omega)) := by simp <;> omega
 have e2 : es[j]? = some (es[j]'(by omega)) := by simp <;> omega
 obtain ⟨v,ev,rd⟩ := r.get e1
 obtain ⟨w,ew,re⟩ := r'.get e2
 obtain ⟨u,eu,ru⟩ := rv.get ev
 obtain ⟨u',eu',ru'⟩ := rv'.get ew
 have f1 : us.toArray[j] = u := by
  have : us[j]? = some us[j] := by simp
  rw [eu] at this
  have := (Option.some.inj this).symm
  simpa using this
 have f2 : us'.toArray[j] = u' := by
  have : us'[j]? = some us'[j] := by simp
  rw [eu'] at this
  have := (Option.some.inj this).symm
  simpa using this
 rw [f1,f2,e1,e2]
 have hm : ds[j]'(by omega) ∈ ds := List.getElem_mem _
 exact (ih _ hm A v w u u' _ (by have := hdm _ hm; omega) rd re ru ru').2
theorem Me : ∀ {ds : List D} {d : D},d ∈ ds -> dep d <= deps ds
 | d0 :: ds,d,h => by
   simp only [deps]
   rcases List.mem_cons.mp h with rfl | h
   . omega
   . have := Me h; omega
theorem Ke {a b : List D} (h : ¬ a.length = b.length) : eqDs a b = false := by
 cases q : eqDs a b with
 | false => rfl
 | true => exact absurd (eqDs_len q) h
mutual
theorem Au0 (I : Inv X pins σ H s) (d : D) : EqD X H s d := by
 intro A x y u v e hu hx hy rx ry
 cases d with
 | non =>
   cases (show x = .non from hx)
   cases (show u = Value.none from rx)
   cases e with
   | non => cases (show y = .non from hy); cases (show v = Value.none from ry); exact ⟨.none_none,.same _⟩
   | bl b => cases (show y = .bl b from hy); cases (show v = Value.bool b from ry); exact ⟨.none_bool b,.none_bool b⟩
   | int i => cases (show y = .int i from hy); obtain ⟨t,rfl⟩ := ry; exact ⟨.none_int i t,.none_int i t⟩
   | str z => cases (show y = .str z from hy); obtain ⟨t,rfl⟩ := ry; exact ⟨.none_str z t,.none_str z t⟩
   | tup es => obtain ⟨a,vs,rfl,q,r⟩ := hy; cases ry; obtain ⟨its,_,p,_⟩ := I.tuple q; exact ⟨.none_tuple p (by omega),.none_tuple p (by omega)⟩
   | lst es => obtain ⟨a,vs,rfl,q,r⟩ := hy; cases ry; obtain ⟨its,_,p,_⟩ := I.list q; exact ⟨.none_list p.isList (by omega),.none_list p.isList (by omega)⟩
 | bl c =>
   cases (show x = .bl c from hx)
   cases (show u = Value.bool c from rx)
   cases e with
   | non => cases (show y = .non from hy); cases (show v = Value.none from ry); exact ⟨.bool_none c,.bool_none c⟩
   | bl b => cases (show y = .bl b from hy); cases (show v = Value.bool b from ry); exact ⟨.bool_bool c b,.bool_bool c b⟩
   | int i => cases (show y = .int i from hy); obtain ⟨t,rfl⟩ := ry; exact ⟨.bool_int c i t,.bool_int c i t⟩
   | str z => cases (show y = .str z from hy); obtain ⟨t,rfl⟩ := ry; exact ⟨.bool_str c z t,.bool_str c z t⟩
   | tup es => obtain ⟨a,vs,rfl,q,r⟩ := hy; cases ry; obtain ⟨its,_,p,_⟩ := I.tuple q; exact ⟨.bool_tuple c p (by omega),.bool_tuple c p (by omega)⟩
   | lst es => obtain ⟨a,vs,rfl,q,r⟩ := hy; cases ry; obtain ⟨its,_,p,_⟩ := I.list q; exact ⟨.bool_list c p.isList (by omega),.bool_list c p.isList (by omega)⟩
 | int c =>
   cases (show x = .int c from hx)
   obtain ⟨t,rfl⟩ := rx
   cases e with
   | non => cases (show y = .non from hy); cases (show v = Value.none from ry); exact ⟨.int_none c t,.int_none c t⟩
   | bl b => cases (show y = .bl b from hy); cases (show v = Value.bool b from ry); exact ⟨.int_bool c t b,.int_bool c t b⟩
   | int i => cases (show y = .int i from hy); obtain ⟨t',rfl⟩ := ry; exact ⟨.int_int c t i t',.int_int c t i t'⟩
   | str z => cases (show y = .str z from hy); obtain ⟨t',rfl⟩ := ry; exact ⟨.int_str c t z t',.int_str c t z t'⟩
   | tup es => obtain ⟨a,vs,rfl,q,r⟩ := hy; cases ry; obtain ⟨its,_,p,_⟩ := I.tuple q; exact ⟨.int_tuple c t p (by omega),.int_tuple c t p (by omega)⟩
   | lst es => obtain ⟨a,vs,rfl,q,r⟩ := hy; cases ry; obtain ⟨its,_,p,_⟩ := I.list q; exact ⟨.int_list c t p.isList (by omega),.int_list c t p.isList (by omega)⟩
 | str c =>
   cases (show x = .str c from hx)
   obtain ⟨t,rfl⟩ := rx
   cases e with
   | non => cases (show y = .non from hy); cases (show v = Value.none from ry); exact ⟨.str_none c t,.str_none c t⟩
   | bl b => cases (show y = .bl b from hy); cases (show v = Value.bool b from ry); exact ⟨.str_bool c t b,.str_bool c t b⟩
   | int i => cases (show y = .int i from hy); obtain ⟨t',rfl⟩ := ry; exact ⟨.str_int c t i t',.str_int c t i t'⟩
   | str z => cases (show y = .str z from hy); obtain ⟨t',rfl⟩ := ry; exact ⟨.str_str c t z t',.str_str c t z t'⟩
   | tup es => obtain ⟨a,vs,rfl,q,r⟩ := hy; cases ry; obtain ⟨its,_,p,_⟩ := I.tuple q; exact ⟨.str_tuple c t p (by omega),.str_tuple c t p (by omega)⟩
   | lst es => obtain ⟨a,vs,rfl,q,r⟩ := hy; cases ry; obtain ⟨its,_,p,_⟩ := I.list q; exact ⟨.str_list c t p.isList (by omega),.str_list c t p.isList (by omega)⟩
 | tup ds =>
   have hx' := hx
   obtain ⟨a,vs,rfl,q,r⟩ := hx
   cases rx
   obtain ⟨its,rv,p,_⟩ := I.tuple q
   have hu' : A.units + 1 + deps ds < cLine := by simp only [dep] at hu; omega
   cases e with
   | non => cases (show y = .non from hy); cases (show v = Value.none from ry); exact ⟨.tuple_none p (by omega),.tuple_none p (by omega)⟩
   | bl b => cases (show y = .bl b from hy); cases (show v = Value.bool b from ry); exact ⟨.tuple_bool b p (by omega),.tuple_bool b p (by omega)⟩
   | int i => cases (show y = .int i from hy); obtain ⟨t',rfl⟩ := ry; exact ⟨.tuple_int i t' p (by omega),.tuple_int i t' p (by omega)⟩
   | str z => cases (show y = .str z from hy); obtain ⟨t',rfl⟩ := ry; exact ⟨.tuple_str z t' p (by omega),.tuple_str z t' p (by omega)⟩
   | lst es => obtain ⟨b,ws,rfl,q',r'⟩ := hy; cases ry; obtain ⟨its',_,p',_⟩ := I.list q'; exact ⟨.tuple_list p p'.isList (by omega),.tuple_list p p'.isList (by omega)⟩
   | tup es =>
     have hy' := hy
     obtain ⟨b,ws,rfl,q',r'⟩ := hy
     cases ry
     obtain ⟨its',rv',p',_⟩ := I.tuple q'
     have main : RcAt A s (.ref a) (.ref b) (eqD (.tup ds) (.tup es)) := by
      have := RcAt.tuples (A := A) p p' (by omega) (Y3 I (A := A.in1) (by show A.units + 1 + deps ds < cLine; omega) r r' rv rv' (eqDs_ok I ds) fun d h => Me h)
      have l1 := r.length
      have l2 := r'.length
      have l3 := rv.length
      have l4 := rv'.length
      have e1 : its.toArray.size = ds.length := by simp <;> omega
      have e2 : its'.toArray.size = es.length := by simp <;> omega
      rw [e1,e2] at this
      simp only [eqD]
      by_cases hl : ds.length = es.length
      . rw [Kt ds es hl]
        rw [← hl,Nat.min_self] at this
        simpa using this
      . rw [Ke hl]
        have z : (ds.length == es.length) = false := by simpa using hl
        rw [z,Bool.and_false] at this
        exact this
     refine ⟨main,?_⟩
     by_cases hab : a = b
     . subst hab
       have e3 : D.tup ds = D.tup es := Rep.inj I hx' hy'
       rw [e3,Ku]
       exact .same _
     . exact .of_refs hab main
 | lst ds =>
   have hx' := hx
   obtain ⟨a,vs,rfl,q,r⟩ := hx
   cases rx
   obtain ⟨its,rv,p,_⟩ := I.list q
   have hu' : A.units + 1 + deps ds < cLine := by simp only [dep] at hu; omega
   cases e with
   | non => cases (show y = .non from hy); cases (show v = Value.none from ry); exact ⟨.list_none p.isList (by omega),.list_none p.isList (by omega)⟩
   | bl b => cases (show y = .bl b from hy); cases (show v = Value.bool b from ry); exact ⟨.list_bool b p.isList (by omega),.list_bool b p.isList (by omega)⟩
   | int i => cases (show y = .int i from hy); obtain ⟨t',rfl⟩ := ry; exact ⟨.list_int i t' p.isList (by omega),.list_int i t' p.isList (by omega)⟩
   | str z => cases (show y = .str z from hy); obtain ⟨t',rfl⟩ := ry; exact ⟨.list_str z t' p.isList (by omega),.list_str z t' p.isList (by omega)⟩
   | tup es => obtain ⟨b,ws,rfl,q',r'⟩ := hy; cases ry; obtain ⟨its',_,p',_⟩ := I.tuple q'; exact ⟨.list_tuple p.isList p' (by omega),.list_tuple p.isList p' (by omega)⟩
   | lst es =>
     have hy' := hy
     obtain ⟨b,ws,rfl,q',r'⟩ := hy
     cases ry
     obtain ⟨its',rv',p',_⟩ := I.list q'
     have main : RcAt A s (.ref a) (.ref b) (eqD (.lst ds) (.lst es)) := by
      have l1 := r.length
      have l2 := r'.length
      have l3 := rv.length
      have l4 := rv'.length
      have e1 : its.toArray.size = ds.length := by simp <;> omega
      have e2 : its'.toArray.size = es.length := by simp <;> omega
      simp only [eqD]
      by_cases hl : ds.length = es.length
      . have := RcAt.lists (A := A) p.isList p'.isList (by omega) (by omega) (Y3 I (A := A.in1) (by show A.units + 1 + deps ds < cLine; omega) r r' rv rv' (eqDs_ok I ds) fun d h => Me h)
        rw [e1] at this
        rw [Kt ds es hl]
        exact this
      . rw [Ke hl]
        exact RcAt.lists_lengths p.isList p'.isList (by simpa [e1,e2] using hl) (by omega)
     refine ⟨main,?_⟩
     by_cases hab : a = b
     . subst hab
       have e3 : D.lst ds = D.lst es := Rep.inj I hx' hy'
       rw [e3,Ku]
       exact .same _
     . exact .of_refs hab main
theorem eqDs_ok (I : Inv X pins σ H s) (ds : List D) : ∀ d ∈ ds,EqD X H s d := by
 cases ds with
 | nil => exact fun _ h => nomatch h
 | cons d0 r =>
   intro d h
   rcases List.mem_cons.mp h with e | h
   . exact e ▸ Au0 I d0
   . exact eqDs_ok I r d h
end
end
end L2
namespace L2
open PySem PySem.Spec PyProof.Rows PySem.SeqAt
section
variable {X : Cx}
def eqF (X : Cx) (H : Hp) (d : D) (u : Value) : Bool := @decide (∃ v e,RelV v u /\ Rep X.K H v e /\ eqD e d = true) (Classical.propDecidable _)
theorem Ai2 {pins : List (Addr × Obj)} {σ : St} {H : Hp} {s : Shared} (I : Inv X pins σ H s) {d e : D} {v : V} {u : Value} (r : RelV v u) (h : Rep X.K H v e) : eqF X H d u = eqD e d := by
 cases q : eqD e d with
 | true => exact @decide_eq_true _ (Classical.propDecidable _) ⟨v,e,r,h,q⟩
 | false =>
   refine @decide_eq_false _ (Classical.propDecidable _) ?_
   rintro ⟨v',e',r',h',q'⟩
   have := r.inj r'
   subst this
   rw [Rep.inj I h h'] at q
   rw [q] at q'
   cases q'
theorem Ai3 {pins : List (Addr × Obj)} {σ : St} {H : Hp} {s : Shared} (I : Inv X pins σ H s) {A : Around} {x : V} {v : Value} {d : D} {vs : List V} {us : List Value} {ds : List D} (hu : A.units + deps ds < cLine) (hx : Rep X.K H x d) (rx : RelV x v)
 (r : Reps X.K H vs ds) (rv : Vals vs us) : ∀ y,y ∈ us.toArray -> EqAt A s y v (eqF X H d y) := by
 intro y hy
 have hy' : y ∈ us := by simpa using hy
 obtain ⟨i,hi⟩ := List.getElem?_of_mem hy'
 have hlt : i < us.length := (List.getElem?_eq_some_iff.mp hi).1
 have l1 := rv.length
 obtain ⟨w,hw⟩ : ∃ w,vs[i]? = some w := ⟨vs[i]'(by omega),by simp <;> omega⟩
 obtain ⟨u,hu2,ru⟩ := rv.get hw
 rw [hi] at hu2
 cases hu2
 obtain ⟨e,he,re⟩ := r.getV hw
 rw [Ai2 I ru re]
 have hm : e ∈ ds := List.mem_of_getElem? he
 exact (Au0 I e A w x y v d (by have := Me hm; omega) re hx ru rx).2
theorem Am2 {pins : List (Addr × Obj)} {σ : St} {H : Hp} {s : Shared} (I : Inv X pins σ H s) {d : D} : ∀ {vs : List V} {us : List Value} {ds : List D},Reps X.K H vs ds -> Vals vs us -> us.any (eqF X H d) = ds.any fun e => eqD e d
 | vs,us,[],r,rv => by
   cases (show vs = [] from r)
   cases rv
   rfl
 | vs,us,e :: ds,r,rv => by
   obtain ⟨v,q,rfl,h1,h2⟩ := r
   cases rv with
   | cons r1 r2 => rw [List.any_cons,List.any_cons,Ai2 I r1 h1,Am2 I h2 r2]
def SeqD (K : W.Frag) (H : Hp) (y : V) (ds : List D) : Prop := Rep K H y (.lst ds) \/ Rep K H y (.tup ds)
def rInD (K : W.Frag) (n : Nat) (neg : Bool) : R2 := fun x y H Q => ∃ d ds,Rep K H x d /\ SeqD K H y ds /\ deps ds + 1 <= n /\ Q (.bl (if neg then !(ds.any fun e => eqD e d) else ds.any fun e => eqD e d)) H
theorem Ac0 {n : Nat} (hu : X.A.units + n < cLine) : OpR X (compareOp .NotIn) (rInD X.K n true) := by
 intro pins s σ H x y v u Q I rx ry h
 obtain ⟨d,ds,hx,hs,hn,q⟩ := h
 have fin : ∀ {us : List Value} {vs : List V},Reps X.K H vs ds -> Vals vs us -> EP X pins σ Q (.bool (!us.toArray.any (eqF X H d))) s := fun r rv =>
  ⟨.bl (!(ds.any fun e => eqD e d)),H,I,by show Value.bool _ = Value.bool _; rw [List.any_toArray,Am2 I r rv],q⟩
 rcases hs with ⟨a,vs,rfl,hq,r⟩ | ⟨a,vs,rfl,hq,r⟩
 . cases ry
   obtain ⟨its,rv,p,_⟩ := I.list hq
   exact notIn_listAt (eqF X H d) p.isList (Ai3 I (A := X.A.in1) (by show X.A.units + 1 + deps ds < cLine; omega) hx rx r rv) (fin r rv)
 . cases ry
   obtain ⟨its,rv,p,_⟩ := I.tuple hq
   exact notIn_tupleAt (eqF X H d) p (Ai3 I (A := X.A.in1) (by show X.A.units + 1 + deps ds < cLine; omega) hx rx r rv) (fin r rv)
def As9 (K : W.Frag) (n : Nat) : V -> List V -> Hp -> VK -> Prop := fun x vs H Q => ∃ ds y d j,vs = [y] /\ Rep K H x (.lst ds) /\ Rep K H y d /\ deps ds + 1 <= n /\ ds.findIdx? (fun e => eqD e d) = some j /\ Q (.int (j : Nat)) H
theorem Aq1 {n : Nat} (hu : X.A.units + n < cLine) : MtR X "list.index" (As9 X.K n) := by
 intro pins s σ H x vs v us Q I rx rv h
 obtain ⟨ds,y,d,j,rfl,⟨a,ws,rfl,hq,r⟩,hy,hn,hj,q⟩ := h
 cases rx
 obtain ⟨u,rfl,ru⟩ := rv.one
 obtain ⟨its,rw',p,hz⟩ := I.list hq
 have l1 := r.length
 have l2 := rw'.length
 obtain ⟨hlt,hit,hno⟩ := List.findIdx?_eq_some_iff_getElem.mp hj
 have at' : ∀ m (hm : m < its.toArray.size) (hm' : m < ds.length),eqF X H d its.toArray[m] = eqD ds[m] d := fun m hm hm' => by
  obtain ⟨w,hw,re⟩ := r.get (i := m) (d := ds[m]) (by simp)
  obtain ⟨u',hu',ru'⟩ := rw'.get hw
  have e1 : its.toArray[m] = u' := by
   have hm2 : m < its.length := by simpa using hm
   have : its[m]? = some its[m] := by simp
   rw [hu'] at this
   have := (Option.some.inj this).symm
   simpa using this
  rw [e1]
  exact Ai2 I ru' re
 obtain ⟨o,k,ho,hc,hdn,hd⟩ := id p
 obtain ⟨cls,dd,data,sl⟩ := o
 simp only at hc hdn hd
 subst hc hdn hd
 have hsz : ds.length <= sizeLine := by omega
 have big : (sizeLine : Nat) < 2 ^ 62 := by rw [sizeLine_eq]; decide
 refine call_meets PySem.F.slot_list_index ⟨_,ho,rfl⟩ PySem.F.entry_list_index (PySem.F.args_list_index_2 _ _)
  (list_indexAt a its.toArray k none sl u (eqF X H d) j (by simp <;> omega) (by omega) ?_ ?_) ⟨ho,Ai3 I (A := X.A.in1) (by show X.A.units + 1 + deps ds < cLine; omega) hy ru r rw',?_⟩
 . rw [at' j (by simp <;> omega) hlt]; exact hit
 . intro m hm hmj
   rw [at' m hm (by omega)]
   have := hno m hmj
   simpa using this
 . exact ⟨.int (j : Nat),H,I.tok _,⟨_,rfl⟩,q⟩
def rNeD (K : W.Frag) (n : Nat) : R2 := fun x y H Q => ∃ d e,Rep K H x d /\ Rep K H y e /\ dep d <= n /\ Q (.bl (!eqD d e)) H
theorem A40 {n : Nat} (hu : X.A.units + n < cLine) : OpR X (compareOp .NotEq) (rNeD X.K n) := by
 intro pins s σ H x y v u Q I rx ry h
 obtain ⟨d,e,hd,he,hn,q⟩ := h
 have fin : EP X pins σ Q (.bool (!eqD d e)) s := ⟨.bl (!eqD d e),H,I,rfl,q⟩
 have go : ∀ {k : Bool},RcNeAt X.A s v u k -> k = (!eqD d e) -> wpAny (model X.prog X.w) X.A (compareOp .NotEq v u) (EP X pins σ Q) X.xe s := fun h1 h2 => by
  subst h2
  exact h1 X.prog X.w X.xe _ fin
 cases d with
 | non =>
   cases (show x = .non from hd)
   cases (show v = Value.none from rx)
   cases e with
   | non => cases (show y = .non from he); cases (show u = Value.none from ry); exact go .none_none rfl
   | bl b => cases (show y = .bl b from he); cases (show u = Value.bool b from ry); exact go (.none_bool b) rfl
   | int i => cases (show y = .int i from he); obtain ⟨t,rfl⟩ := ry; exact go (.none_int i t) rfl
   | str z => cases (show y = .str z from he); obtain ⟨t,rfl⟩ := ry; exact go (.none_str z t) rfl
   | tup es => obtain ⟨a,vs,rfl,q,r⟩ := he; cases ry; obtain ⟨its,_,p,_⟩ := I.tuple q; exact go (.none_tuple p (by omega)) rfl
   | lst es => obtain ⟨a,vs,rfl,q,r⟩ := he; cases ry; obtain ⟨its,_,p,_⟩ := I.list q; exact go (.none_list p.isList (by omega)) rfl
 | bl c =>
   cases (show x = .bl c from hd)
   cases (show v = Value.bool c from rx)
   cases e with
   | non => cases (show y = .non from he); cases (show u = Value.none from ry); exact go (.bool_none c) rfl
   | bl b => cases (show y = .bl b from he); cases (show u = Value.bool b from ry); exact go (.bool_bool c b) rfl
   | int i => cases (show y = .int i from he); obtain ⟨t,rfl⟩ := ry; exact go (.bool_int c i t) rfl
   | str z => cases (show y = .str z from he); obtain ⟨t,rfl⟩ := ry; exact go (.bool_str c z t) rfl
   | tup es => obtain ⟨a,vs,rfl,q,r⟩ := he; cases ry; obtain ⟨its,_,p,_⟩ := I.tuple q; exact go (.bool_tuple c p (by omega)) rfl
   | lst es => obtain ⟨a,vs,rfl,q,r⟩ := he; cases ry; obtain ⟨its,_,p,_⟩ := I.list q; exact go (.bool_list c p.isList (by omega)) rfl
 | int c =>
   cases (show x = .int c from hd)
   obtain ⟨t,rfl⟩ := rx
   cases e with
   | non => cases (show y = .non from he); cases (show u = Value.none from ry); exact go (.int_none c t) rfl
   | bl b => cases (show y = .bl b from he); cases (show u = Value.bool b from ry); exact go (.int_bool c t b) rfl
   | int i => cases (show y = .int i from he); obtain ⟨t',rfl⟩ := ry; exact go (.int_int c t i t') rfl
   | str z => cases (show y = .str z from he); obtain ⟨t',rfl⟩ := ry; exact go (.int_str c t z t') rfl
   | tup es => obtain ⟨a,vs,rfl,q,r⟩ := he; cases ry; obtain ⟨its,_,p,_⟩ := I.tuple q; exact go (.int_tuple c t p (by omega)) rfl
   | lst es => obtain ⟨a,vs,rfl,q,r⟩ := he; cases ry; obtain ⟨its,_,p,_⟩ := I.list q; exact go (.int_list c t p.isList (by omega)) rfl
 | str c =>
   cases (show x = .str c from hd)
   obtain ⟨t,rfl⟩ := rx
   cases e with
   | non => cases (show y = .non from he); cases (show u = Value.none from ry); exact go (.str_none c t) rfl
   | bl b => cases (show y = .bl b from he); cases (show u = Value.bool b from ry); exact go (.str_bool c t b) rfl
   | int i => cases (show y = .int i from he); obtain ⟨t',rfl⟩ := ry; exact go (.str_int c t i t') rfl
   | str z => cases (show y = .str z from he); obtain ⟨t',rfl⟩ := ry; exact go (.str_str c t z t') rfl
   | tup es => obtain ⟨a,vs,rfl,q,r⟩ := he; cases ry; obtain ⟨its,_,p,_⟩ := I.tuple q; exact go (.str_tuple c t p (by omega)) rfl
   | lst es => obtain ⟨a,vs,rfl,q,r⟩ := he; cases ry; obtain ⟨its,_,p,_⟩ := I.list q; exact go (.str_list c t p.isList (by omega)) rfl
 | tup ds =>
   obtain ⟨a,vs,rfl,q1,r⟩ := hd
   cases rx
   obtain ⟨its,rv,p,_⟩ := I.tuple q1
   have hu' : X.A.units + 1 + deps ds < cLine := by simp only [dep] at hn; omega
   cases e with
   | non => cases (show y = .non from he); cases (show u = Value.none from ry); exact go (.tuple_none p (by omega)) rfl
   | bl b => cases (show y = .bl b from he); cases (show u = Value.bool b from ry); exact go (.tuple_bool b p (by omega)) rfl
   | int i => cases (show y = .int i from he); obtain ⟨t',rfl⟩ := ry; exact go (.tuple_int i t' p (by omega)) rfl
   | str z => cases (show y = .str z from he); obtain ⟨t',rfl⟩ := ry; exact go (.tuple_str z t' p (by omega)) rfl
   | lst es => obtain ⟨b,ws,rfl,q',r'⟩ := he; cases ry; obtain ⟨its',_,p',_⟩ := I.list q'; exact go (.tuple_list p p'.isList (by omega)) rfl
   | tup es =>
     obtain ⟨b,ws,rfl,q',r'⟩ := he
     cases ry
     obtain ⟨its',rv',p',_⟩ := I.tuple q'
     refine go (RcNeAt.tuples p p' (by omega) (Y3 I (A := X.A.in1) (by show X.A.units + 1 + deps ds < cLine; omega) r r' rv rv' (eqDs_ok I ds) fun d h => Me h)) ?_
     have l1 := r.length
     have l2 := r'.length
     have l3 := rv.length
     have l4 := rv'.length
     have e1 : its.toArray.size = ds.length := by simp <;> omega
     have e2 : its'.toArray.size = es.length := by simp <;> omega
     rw [e1,e2]
     simp only [eqD]
     by_cases hl : ds.length = es.length
     . rw [Kt ds es hl,← hl,Nat.min_self]
       simp
     . rw [Ke hl]
       have z : (ds.length == es.length) = false := by simpa using hl
       rw [z,Bool.and_false]
 | lst ds =>
   obtain ⟨a,vs,rfl,q1,r⟩ := hd
   cases rx
   obtain ⟨its,rv,p,_⟩ := I.list q1
   have hu' : X.A.units + 1 + deps ds < cLine := by simp only [dep] at hn; omega
   cases e with
   | non => cases (show y = .non from he); cases (show u = Value.none from ry); exact go (.list_none p.isList (by omega)) rfl
   | bl b => cases (show y = .bl b from he); cases (show u = Value.bool b from ry); exact go (.list_bool b p.isList (by omega)) rfl
   | int i => cases (show y = .int i from he); obtain ⟨t',rfl⟩ := ry; exact go (.list_int i t' p.isList (by omega)) rfl
   | str z => cases (show y = .str z from he); obtain ⟨t',rfl⟩ := ry; exact go (.list_str z t' p.isList (by omega)) rfl
   | tup es => obtain ⟨b,ws,rfl,q',r'⟩ := he; cases ry; obtain ⟨its',_,p',_⟩ := I.tuple q'; exact go (.list_tuple p.isList p' (by omega)) rfl
   | lst es =>
     obtain ⟨b,ws,rfl,q',r'⟩ := he
     cases ry
     obtain ⟨its',rv',p',_⟩ := I.list q'
     have l1 := r.length
     have l2 := r'.length
     have l3 := rv.length
     have l4 := rv'.length
     have e1 : its.toArray.size = ds.length := by simp <;> omega
     have e2 : its'.toArray.size = es.length := by simp <;> omega
     by_cases hl : ds.length = es.length
     . refine go (RcNeAt.lists p.isList p'.isList (by omega) (by omega) (Y3 I (A := X.A.in1) (by show X.A.units + 1 + deps ds < cLine; omega) r r' rv rv' (eqDs_ok I ds) fun d h => Me h)) ?_
       rw [e1]
       simp only [eqD]
       rw [Kt ds es hl]
     . refine go (RcNeAt.lists_lengths p.isList p'.isList (by simpa [e1,e2] using hl) (by omega)) ?_
       simp only [eqD]
       rw [Ke hl]
       rfl
def isD (n : String) : D -> Bool
 | .non => false
 | .bl _ => n == "int" || n == "bool"
 | .int _ => n == "int"
 | .str _ => n == "str"
 | .tup _ => n == "tuple"
 | .lst _ => n == "list"
def tyD : D -> String
 | .non => "NoneType"
 | .bl _ => "bool"
 | .int _ => "int"
 | .str _ => "str"
 | .tup _ => "tuple"
 | .lst _ => "list"
theorem At7 {K : W.Frag} {n : String} {d : D} (hn : n = "int" \/ n = "bool" \/ n = "str" \/ n = "tuple" \/ n = "list" \/ n = "dict") : PySem.W.kitOne K (.type (tyD d)) (.type n) = some (isD n d) := by
 rcases hn with rfl | rfl | rfl | rfl | rfl | rfl <;> cases d <;> (unfold PySem.W.kitOne PySem.W.kitCls PySem.W.subIn tyD isD; first | rfl | decide +kernel)
theorem J0 : Fp X (.builtin "isinstance") (fun xs H Q => ∃ x n d,xs = [x,.ty n] /\ (n = "int" \/ n = "bool" \/ n = "str" \/ n = "tuple" \/ n = "list" \/ n = "dict") /\ Rep X.K H x d /\ Q (.bl (isD n d)) H) := by
 intro pins s σ H xs us Q I r h
 obtain ⟨x,n,d,rfl,hn,hx,q⟩ := h
 obtain ⟨u,v,rfl,rx,rt⟩ := u8 r
 cases rt
 have k := At7 (K := X.K) (d := d) hn
 have fin : ∀ tk,EP X pins σ Q (.bool (isD n d)) { s with toks := tk } := fun tk => ⟨.bl (isD n d),H,I.tok tk,rfl,q⟩
 cases d with
 | non => cases (show x = .non from hx); cases (show u = Value.none from rx); exact PySem.W.kia_one PySem.W.kitx_none I.kIn True.intro k (fun z => nomatch z) fin
 | bl b => cases (show x = .bl b from hx); cases (show u = Value.bool b from rx); exact PySem.W.kia_one PySem.W.kitx_bool I.kIn True.intro k (fun z => nomatch z) fin
 | int b => cases (show x = .int b from hx); obtain ⟨t,rfl⟩ := rx; exact PySem.W.kia_one PySem.W.kitx_int I.kIn True.intro k (fun z => nomatch z) fin
 | str b => cases (show x = .str b from hx); obtain ⟨t,rfl⟩ := rx; exact PySem.W.kia_one PySem.W.kitx_str I.kIn True.intro k (fun z => nomatch z) fin
 | tup ds =>
   obtain ⟨a,vs,rfl,hq,_⟩ := hx
   cases rx
   obtain ⟨its,_,⟨o,e,c,_⟩,_⟩ := I.tuple hq
   exact PySem.W.kia_one PySem.W.kitx_tuple I.kIn ⟨o,e,c⟩ k (fun z => nomatch z) fin
 | lst ds =>
   obtain ⟨a,vs,rfl,hq,_⟩ := hx
   cases rx
   obtain ⟨its,_,⟨o,_,e,c,_⟩,_⟩ := I.list hq
   exact PySem.W.kia_one PySem.W.kitx_list I.kIn ⟨o,e,c⟩ k (fun z => nomatch z) fin
def A31 (K : W.Frag) : R2 := fun x y H Q => ∃ a b xs ys,x = .ref a /\ y = .ref b /\ SqT K H a xs /\ SqT K H b ys /\ xs.length + ys.length <= sizeLine /\ ∀ p H',Same H H' -> SqT K H' p (xs ++ ys) -> Q (.ref p) H'
theorem Ax4 : OpR X (binaryOp .Add) (A31 X.K) := by
 intro pins s σ H x y v u Q I rx ry h
 obtain ⟨a,b,xs,ys,rfl,rfl,ha,hb,hz,q⟩ := h
 by_cases hx : xs = []
 . subst hx
   cases rx
   cases ry
   obtain ⟨its,r1,p1,_⟩ := I.tuple ha
   obtain ⟨its2,r2,p2,_⟩ := I.tuple hb
   cases r1
   obtain ⟨⟨cls,dd,data,sl⟩,ho,hc,n,hd⟩ := id p1
   obtain ⟨⟨cls2,dd2,data2,sl2⟩,ho2,hc2,n2,hd2⟩ := id p2
   simp only at hc hd hc2 hd2
   subst hc hd hc2 hd2
   exact concat_meets ⟨_,ho,rfl⟩ ⟨_,ho2,rfl⟩ noFill_tuple_add seq_tuple_add PySem.F.slot_tuple_add PySem.F.entry_tuple_add (PySem.F.args_tuple_add_2 _ _)
    (tuple_addW0 a b _ _ n n2 dd dd2 sl sl2 (by simp)) ⟨ho,ho2,⟨.ref b,H,I,rfl,q b H (Same.refl H) (by simpa using hb)⟩⟩
 . refine Ax5 pins s σ H (.ref a) (.ref b) v u Q I rx ry ⟨a,b,xs,ys,rfl,rfl,ha,hb,hx,hz,fun e => ?_,fun e p hp => ?_⟩
   . subst e; exact q a H (Same.refl H) (by simpa using ha)
   . exact q p _ (Same.new hp) (.of Ab)
def A29 (K : W.Frag) : V -> Option Int -> Option Int -> Hp -> VK -> Prop := fun x lo hi H Q => ∃ a xs,x = .ref a /\ SqT K H a xs ∧
 ¬ (HT.sIx xs.length 0 lo = 0 /\ HT.sIx xs.length xs.length hi = xs.length) /\ ∀ p H',Same H H' -> SqT K H' p (cutV xs lo hi) -> Q (.ref p) H'
theorem Av2 : SlR X (A29 X.K) := by
 intro pins s σ H x v vl vu lo hi sl Q I rx hs pl pu h
 obtain ⟨a,xs,rfl,hx,hw,q⟩ := h
 exact A24 pins s σ H (.ref a) v vl vu lo hi sl Q I rx hs pl pu ⟨a,xs,rfl,hx,hw,fun p hp => q p _ (Same.new hp) (.of Ab)⟩
def At0 (K : W.Frag) : R2 := fun x y H Q => ∃ l b xs zs,x = .ref l /\ y = .ref b /\ SqL K H l xs /\ SqL K H b zs /\ xs.length + zs.length <= sizeLine /\ ∀ p,H p = none -> Q (.ref p) (upd H p (.lst (xs ++ zs)))
theorem Ap4 : OpR X (binaryOp .Add) (At0 X.K) := by
 intro pins s σ H x y v u Q I rx ry h
 obtain ⟨l,b,xs,zs,rfl,rfl,hl,hb,hz,q⟩ := h
 cases rx
 cases ry
 obtain ⟨its,r1,p1,_⟩ := I.list hl
 obtain ⟨its2,r2,p2,_⟩ := I.list hb
 obtain ⟨⟨cls,dd,data,sl⟩,n,ho,hc,hdd,hd⟩ := id p1
 obtain ⟨⟨cls2,dd2,data2,sl2⟩,n2,ho2,hc2,hdd2,hd2⟩ := id p2
 simp only at hc hd hc2 hd2
 subst hc hd hc2 hd2
 refine concat_meets ⟨_,ho,rfl⟩ ⟨_,ho2,rfl⟩ noFill_list_add seq_list_add PySem.F.slot_list_add PySem.F.entry_list_add (PySem.F.args_list_add_2 _ _)
  (list_addW l b its.toArray its2.toArray n n2 dd dd2 sl sl2 (by rw [List.size_toArray,List.size_toArray,← r1.length,← r2.length]; exact hz)) ⟨ho,ho2,?_⟩
 rw [show its.toArray ++ its2.toArray = (its ++ its2).toArray by simp]
 exact ⟨.ref s.heap.objs.size,_,I.lnew (t' := s.toks) (r1.append r2) (by rw [List.length_append]; exact hz),rfl,q _ I.fresh⟩
theorem Al5 (hc : X.calm = true) : Fp X (.builtin "all") (fun xs H Q => ∃ (p : Addr) (bs : List Bool),xs = [.ref p] /\ SqL X.K H p (bs.map V.bl) /\ Q (.bl (bs.all id)) H) := by
 intro pins s σ H xs us Q I r h
 obtain ⟨p,bs,rfl,hq,q⟩ := h
 obtain ⟨u,rfl,ru⟩ := So r
 cases ru
 obtain ⟨its,rv,pl,hz⟩ := I.list hq
 have hh : X.A.handled = none := I.ok.hd hc
 have rel : ∀ (i : Nat) (v : Value),its.toArray[i]? = some v -> ∃ b,bs[i]? = some b /\ v = .bool b := fun i v e => by
  have e' : its[i]? = some v := by simpa using e
  have hlt : i < its.length := (List.getElem?_eq_some_iff.mp e').1
  have l1 := rv.length
  rw [List.length_map] at l1
  have hb : bs[i]? = some (bs[i]'(by omega)) := by simp <;> omega
  obtain ⟨u,hu,ru⟩ := rv.get (i := i) (x := V.bl (bs[i]'(by omega))) (by rw [List.getElem?_map,hb]; rfl)
  rw [e'] at hu
  cases hu
  exact ⟨_,hb,ru⟩
 refine call_all_walk (wpAny_pyIter_list pl.isList ?_)
 refine ⟨s.heap.objs.size,[s.heap.objs.size,p],[s.heap.objs.size],its.toArray.size,_,_,fun i => (bs[i]?).getD true,rfl,Walks.list (show X.A.in1.handled = none from hh) s.heap.objs.size p ?_ its.toArray,⟨⟨_,Heap.get?_push_size _ rfl,rfl,rfl⟩,?_⟩,?_,fun h' tk k => ?_⟩
 . obtain ⟨o,_,ho,_⟩ := pl
   exact Nat.ne_of_lt (Heap.lt_size ho)
 . exact pl.isList.at fun o e => Heap.get?_push_of_some _ e
 . intro i v s' Q' E' hv hQ
   obtain ⟨b,hb,rfl⟩ := rel i v hv
   dsimp only at hQ
   rw [hb] at hQ
   exact wpAny_truthy_bool hQ
 . have e : (List.range its.toArray.size).all (fun i => (bs[i]?).getD true) = bs.all id := by
    have l1 := rv.length
    rw [List.length_map] at l1
    rw [List.size_toArray,← l1]
    rw [Bool.eq_iff_iff,List.all_eq_true,List.all_eq_true]
    constructor
    . intro hx b hb
      obtain ⟨i,hi⟩ := List.getElem?_of_mem hb
      have := hx i (List.mem_range.mpr (List.getElem?_eq_some_iff.mp hi).1)
      rw [hi] at this
      exact this
    . intro hx i hi
      have hlt := List.mem_range.mp hi
      have hb : bs[i]? = some bs[i] := by simp
      rw [hb]
      exact hx _ (List.getElem_mem _)
   rw [e]
   have I1 : Inv X pins σ H { s with heap := h',toks := tk } := I.kept (fun b o e => k b o (by simp; exact Nat.ne_of_lt (Heap.lt_size e)) (Heap.get?_push_of_some _ e))
   exact ⟨.bl (bs.all id),H,I1,rfl,q⟩
end
structure Has (P : Program) (w : World) (K : W.Frag) (mg : Str -> Option Value) (base : Heap) (x : Str) (ps : List Str) (k : Nat) (sp : Sp) : Prop where
 ex : ∃ (f : Addr) (fd : FuncData),mg x = some (.ref f) /\ PySem.W.keepIn K (.ref f) = true /\ J4 K fd ps [] /\ FnOk P w K mg base CX0 k f fd ps sp
section
variable {X : Cx} {x : Str} {ps : List Str} {j k : Nat} {sp : Sp} {p pos : Pos} {e : Expr} {es : List Expr} {t : TA}
theorem Al (h : Has X.prog X.w X.K X.mg X.base x ps j sp) (hr : Room k X.A) (hg : Gl X x) (ha : PA X (e :: es) t) (hk : j <= k := by decide) (hdb : (x == ("__debug__" : Str)) = false := by decide)
 (he : starEach (e :: es) X.env = (false,eval e X.env) :: starEach es X.env := by rfl) (hpl : (backTo pos (starEach es X.env)).any (·.1) = false := by rfl) : PE X (.Call (.Name x p) (e :: es) [] pos) (tCall sp [] E0 t) := by
 obtain ⟨f,fd,h1,h2,h3,h4⟩ := h.ex
 exact Ax3 h4 (hr.mono hk) hg h1 h2 h3 .nil Ab8 ha hdb he hpl
end
theorem boot_intT : bootBuiltins "int" = some (.type "int") := by decide +kernel
theorem Sd : bootBuiltins "bool" = some (.type "bool") := by decide +kernel
theorem Cw : bootBuiltins "tuple" = some (.type "tuple") := by decide +kernel
theorem Sc : bootBuiltins "list" = some (.type "list") := by decide +kernel
theorem Fm : bootBuiltins "dict" = some (.type "dict") := by decide +kernel
theorem Fl : bootBuiltins "max" = some (.builtin "max") := by decide +kernel
theorem Ws : bootBuiltins "all" = some (.builtin "all") := by decide +kernel
theorem A4 : bootBuiltins "isinstance" = some (.builtin "isinstance") := by decide +kernel
end L2
namespace L2
open PySem PySem.Spec PyProof.Rows
section
variable {X : Cx} {K : W.Frag} {tg l : Expr} {tl : TE} {n : Nat}
theorem Kr (hK : X.K = K := by rfl) : OpR X (binaryOp .Add) (A31 K) := by subst hK; exact Ax4
theorem Vt (hK : X.K = K := by rfl) : OpR X (binaryOp .Add) (At0 K) := by subst hK; exact Ap4
theorem F7 (hK : X.K = K := by rfl) : SlR X (A29 K) := by subst hK; exact Av2
theorem Aq8 (hK : X.K = K := by rfl) : SlR X (rSlL K) := by subst hK; exact Av4
theorem A1 (hK : X.K = K := by rfl) : IxR X (rIxL K) := by subst hK; exact Az2
theorem Bb (hK : X.K = K := by rfl) : IxR X (rIxT K) := by subst hK; exact A67
theorem Aj (hK : X.K = K := by rfl) : Fp X (.builtin "len") (fun xs H Q => ∃ p ys,xs = [.ref p] /\ (SqL K H p ys \/ SqT K H p ys) /\ Q (.int ys.length) H) := by subst hK; exact Wp
theorem Tx (hK : X.K = K := by rfl) : Fp X (.type "list") (fun xs H Q => ∃ p ys,xs = [.ref p] /\ (SqL K H p ys \/ SqT K H p ys) /\ ∀ l,H l = none -> Q (.ref l) (upd H l (.lst ys))) := by subst hK; exact Wo
theorem Dn (hK : X.K = K := by rfl) : Fp X (.type "tuple") (fun xs H Q => ∃ p ys,xs = [.ref p] /\ ((SqL K H p ys /\ ∀ l,H l = none -> Q (.ref l) (upd H l (.tup ys))) \/ (SqT K H p ys /\ Q (.ref p) H))) := by subst hK; exact Ur
theorem C3 (hK : X.K = K := by rfl) : Fp X (.builtin "isinstance") (fun xs H Q => ∃ x n d,xs = [x,.ty n] /\ (n = "int" \/ n = "bool" \/ n = "str" \/ n = "tuple" \/ n = "list" \/ n = "dict") /\ Rep K H x d /\ Q (.bl (isD n d)) H) := by subst hK; exact J0
theorem Rw (hc : X.calm = true) (hK : X.K = K := by rfl) : Fp X (.builtin "all") (fun xs H Q => ∃ (p : Addr) (bs : List Bool),xs = [.ref p] /\ SqL K H p (bs.map V.bl) /\ Q (.bl (bs.all id)) H) := by subst hK; exact Al5 hc
theorem Eb (hu : X.A.units + n < cLine) (hK : X.K = K := by rfl) : OpR X (compareOp .NotIn) (rInD K n true) := by subst hK; exact Ac0 hu
theorem Af8 (hu : X.A.units + n < cLine) (hK : X.K = K := by rfl) : OpR X (compareOp .NotEq) (rNeD K n) := by subst hK; exact A40 hu
theorem Af9 (hu : X.A.units + n < cLine) (hK : X.K = K := by rfl) : MtR X "list.index" (As9 K n) := by subst hK; exact Aq1 hu
theorem Co (hl : PE X l tl) (hK : X.K = K := by rfl) : PI X tg l (A70 K tl) := by subst hK; exact Aw6 hl
theorem L5 (hl : PE X l tl) (hK : X.K = K := by rfl) : PI X tg l (iTup K tl) := by subst hK; exact A35 hl
variable {o e : Expr} {es : List Expr} {to : TE} {t : TA} {name : Str} {apos cpos : Pos} {T id : String} {r : V -> List V -> Hp -> VK -> Prop}
theorem Hg (pa : PlainAttrs T) (slot : Slot T name id) (hty : typeOf (.builtin id) = pure (.type "method_descriptor")) (hm : MtR X id r) (ho : PE X o to) (ha : PA X (e :: es) t) (hK : X.K = K := by rfl)
 (hbase : attributeBase o name X.env (eval o X.env) = eval o X.env := by rfl)
 (hfew : ((backTo cpos (starEach (e :: es) X.env)).all (fun x => !x.1) && (backToKw cpos (keywordEach [] X.env)).all (fun x => x.1.isSome)
   && decide ((e :: es).length + ([] : List Keyword).length + (if ([] : List Keyword).isEmpty then 0 else 1) < 30)) = true := by rfl)
 (hline : (apos.endLine == cpos.line) = true := by rfl) (hs : starEach (e :: es) X.env = (false,eval e X.env) :: starEach es X.env := by rfl) (hplain : (backTo cpos (starEach es X.env)).any (·.1) = false := by rfl) :
 PE X (.Call (.Attribute o name apos) (e :: es) [] cpos) (tBM K T r to t) := by subst hK; exact A95 pa slot hty hm ho ha hbase hfew hline hs hplain
theorem Eh {es : List Expr} {k : Nat} {t : TGs} {n : Nat} {pos : Pos} (hc : X.calm = true) (h : PGs X es t) (hK : X.K = K := by rfl)
 (hn : (assignEach es X.env).length = n := by rfl) (hst : (assignEach es X.env).findIdx? (·.1) = none := by rfl) : PG X (.Tuple es k pos) (gTup K n t) := by subst hK; exact A36 hc h hn hst
end
end L2
namespace L2
open PySem PySem.Spec PyProof.Rows
end L2
namespace L2
open PySem PySem.Spec PyProof.Rows
section
variable {fs : List Addr} {H H' : Hp} {h B h' h2 : Heap}
end
abbrev XJ := Value -> Option Addr -> St -> Hp -> Prop
section
variable {X : Cx} {pins : List (Addr × Obj)} {σ : St} {H H' : Hp} {s s' : Shared} {e : Addr} {cls a0 : Value} {dx : Option Addr}
end
section
variable {P : Program} {w : World} {K : W.Frag} {mg : Str -> Option Value} {base : Heap} {N : List Str} {qual : Str} {scope : Scope} {f : Addr} {cd : Value} {A : Around} {outer : List Env} {s : Shared} {H : Hp} {E : XK}
end
section
variable {X : Cx} {J : XJ} {x : Str} {ps : List Str} {j k : Nat} {sp : Sp} {p pos : Pos} {e : Expr} {es : List Expr} {t : TA}
end
end L2
namespace L2
open PySem PySem.Spec PyProof.Rows PySem.W
section
variable {X : Cx} {pins pn : List (Addr × Obj)} {σ : St} {H : Hp} {s : Shared} {J : XJ}
end
section
variable {X : Cx} {th : Ends -> XJ}
end
section
variable {prog : Program} {w : World} {A : Around} {E : Value -> Shared -> Prop} {h : Heap} {g : Array GenState} {d : Drawn} {t : Nat} {os : OsState} {a C : Addr} {o : Obj} {K : Frag}
end
section
variable {X : Cx} {K : Frag}
end
end L2
namespace L2
open PySem PySem.Spec PyProof.Rows
def Ite (K : W.Frag) (a : Addr) : It :=
 ⟨fun i H => ∃ xs x,SqL K H a xs /\ xs[i]? = some x,fun i H x H' => ∃ p v,H p = none /\ x = .ref p /\ H' = upd H p (.tup [.int i,v]) /\ ∀ xs,SqL K H a xs -> xs[i]? = some v,fun i H => ∃ xs,SqL K H a xs /\ xs.length <= i⟩
theorem v6 {P : Program} {w : World} {K : W.Frag} {es : List Expr} {x1 : Nat} {tpos : Pos} (a e it : Addr) (hne : e ≠ it) : Turn P w K (.Tuple es x1 tpos) (Ite K a) [e,it] e (fun i h => (∃ old,IsEnum h e it (i : Int) old) /\ h.IsListIter it a i) where
 mem := by simp
 obj := fun i h st b hb => by
  obtain ⟨⟨old,h1⟩,o,h2,c,d⟩ := st
  rcases List.mem_cons.mp hb with rfl | hb
  . exact ⟨_,h1,fun v z => by cases (show Data.fields _ = Data.cell v from z)⟩
  . have z : b = it := by simpa using hb
    subst z
    exact ⟨o,h2,fun v z => by rw [d] at z; cases z⟩
 keep := fun i h h' st k => by
  obtain ⟨⟨old,h1⟩,h2⟩ := st
  exact ⟨⟨old,k e (by simp) _ h1⟩,h2.at fun o z => k it (by simp) o z⟩
 item := by
  intro X hP hw hK hc i pins s σ H E I hf st hg
  subst hP hw hK
  obtain ⟨⟨old,h1⟩,h2⟩ := st
  obtain ⟨xs,x,hq,hx⟩ := hg
  obtain ⟨its,rv,p,hz⟩ := I.list hq
  obtain ⟨u,hu,ru⟩ := rv.get hx
  have fe := hf e (by simp)
  have fi := hf it (by simp)
  have lte : e < s.heap.objs.size := Heap.lt_size h1
  have hfresh : H s.heap.objs.size = none := I.hok.fresh (Nat.le_refl _)
  refine wpAny_pyNext_enum_item h1 h2 p.isList (x := u) (by simpa using hu) hne fun h' hout hit' htup hsz hk => ?_
  refine ⟨_,rfl,wpAny_letOwnedTupleGo_enum hout fun h3 hen hsb => ?_⟩
  replace hsb : Heap.SameBut e h' h3 := hsb
  have kk : ∀ b o,b ≠ e -> b ≠ it -> s.heap.get? b = some o -> h3.get? b = some o := fun b o n1 n2 z => (hsb.2 b n1).trans (hk b o n1 n2 z)
  have ht3 : h3.get? s.heap.objs.size = some { cls := .type "tuple",data := .seq #[.int i s.toks,u] } := (hsb.2 _ (Nat.ne_of_gt lte)).trans htup
  have hi3 : h3.IsListIter it a (i + 1) := hit'.at fun o z => (hsb.2 it hne.symm).trans z
  have nch : ∀ b,b ∉ [e,it] -> b ≠ e /\ b ≠ it := fun b hb => by simpa using hb
  have ntr : ∀ b v,H b = some v -> b ≠ e /\ b ≠ it := fun b v z => ⟨Ak z fe.1,Ak z fi.1⟩
  have nsz : ∀ b v,H b = some v -> b ≠ s.heap.objs.size := fun b v z => Ak z hfresh
  refine ⟨.ref s.heap.objs.size,upd H s.heap.objs.size (.tup [.int i,x]),?_,rfl,⟨s.heap.objs.size,x,hfresh,rfl,rfl,fun ys hy => by rw [I.list_inj hy hq]; exact hx⟩,⟨⟨_,hen⟩,hi3⟩,fun b hb => ?_⟩
  . refine Inv.step (s := s) (h' := h3) (t' := s.toks + 1) (H' := upd H s.heap.objs.size (.tup [.int i,x])) I (g' := s.gens) (d' := s.drawn) (ch := [e,it]) (fun b hb => ?_) (fun b o _ _ hb z _ => kk b o (nch b hb).1 (nch b hb).2 z) (fun b o _ _ hb z _ => ⟨o.slots,kk b o (nch b hb).1 (nch b hb).2 z⟩) (fun b o hb z n => ?_) (fun b o hb z => ⟨o,kk b o (nch b hb).1 (nch b hb).2 z⟩)
     (fun b ys z => by rw [Ae (nsz b _ z)]; exact z) (fun b o v z => by rw [Ae (nsz b _ z)]; exact z) (fun b ps z => ⟨#[],by rw [Ae (nsz b _ z),z]; simp⟩) (fun m hm => ?_) (fun b v z => ?_) I.bare
    . rcases List.mem_cons.mp hb with rfl | hb
      . exact ⟨fe.2.2.2.1,fe.2.1,fe.2.2.2.2.1,fe.2.2.2.2.2⟩
      . have z : b = it := by simpa using hb
        subst z
        exact ⟨fi.2.2.2.1,fi.2.1,fi.2.2.2.2.1,fi.2.2.2.2.2⟩
    . rw [Ae (Nat.ne_of_lt (Heap.lt_size z))]
      exact n
    . obtain ⟨o,es',ep,ho,r⟩ := hm
      exact ⟨o,es',ep,kk _ o fe.2.1.symm fi.2.1.symm ho,r⟩
    . by_cases hb : b = s.heap.objs.size
      . subst hb
        rw [Ab] at z
        cases z
        exact ⟨(by show (2 : Nat) <= sizeLine; decide),[.int i s.toks,u],.cons ⟨_,rfl⟩ (.cons ru .nil),⟨_,ht3,rfl,rfl,_,rfl⟩⟩
      . rw [Ae hb] at z
        refine (I.hok b v z).stay (fun c y hc' q => ?_) (fun c q => by rw [Ae (nsz c _ q)]; exact q) fun c ys q => by rw [Ae (nsz c _ q)]; exact q
        rcases hc' with rfl | hc'
        . exact kk _ _ (ntr _ _ z).1 (ntr _ _ z).2 q
        . exact kk _ _ (ntr _ _ hc').1 (ntr _ _ hc').2 q
  . have lb : b < s.heap.objs.size := by
     rcases List.mem_cons.mp hb with rfl | hb
     . exact lte
     . have z : b = it := by simpa using hb
       subst z
       obtain ⟨o,z,_⟩ := h2
       exact Heap.lt_size z
    rw [Ae (Nat.ne_of_lt lb)]
    exact (hf b hb).1
 done := by
  intro X hP hw hK hc i pins s σ H E I hf st hg
  subst hP hw hK
  obtain ⟨⟨old,h1⟩,h2⟩ := st
  obtain ⟨xs,hq,hx⟩ := hg
  obtain ⟨its,rv,p,hz⟩ := I.list hq
  obtain ⟨f0,f1,f2,f3,f4,f5⟩ := hf it (by simp)
  have hl := rv.length
  exact wpAny_pyNext_enum_end (I.ok.hd hc) h1 h2 p.isList (by simp; omega) fun h' eb => ⟨rfl,I.turned (t' := s.toks) (fun b o hb z => eb b o hb z) f0 f1 f3 f4 f5⟩
 self := fun _ _ _ _ _ st h => by
  obtain ⟨⟨old,h1⟩,h2⟩ := st
  exact wpAny_pyIter_enum h1 h
def Ba5 (K : W.Frag) (ta : TA) : TI := fun σ H R => ta σ H fun vs H1 => ∃ a,vs = [.ref a] /\ (∃ xs,SqL K H1 a xs) /\ R (Ite K a) H1
theorem Pt : bootBuiltins "enumerate" = some (.type "enumerate") := by decide +kernel
theorem Aw7 {X : Cx} {K : W.Frag} {es : List Expr} {x1 : Nat} {tpos : Pos} {a : Expr} {ta : TA} {p pos : Pos} (hg : Gl X "enumerate") (hm : X.mg "enumerate" = none) (ha : PA X [a] ta) (hK : X.K = K := by rfl) (hs : starEach [a] X.env = [(false,eval a X.env)] := by rfl) : PI X (.Tuple es x1 tpos) (.Call (.Name "enumerate" p) [a] [] pos) (Ba5 K ta) := by
 subst hK
 intro pins s σ H R I h
 refine Call_ (Jc I hg hm Pt (PyProof.Rows.callWith_type1 (thn (ha pos pins s σ H _ I h) fun us s1 ⟨vs,H1,I1,r1,q1⟩ => ?_) hs rfl))
 obtain ⟨l,e,⟨xs,hq⟩,q⟩ := q1
 subst e
 cases r1 with
 | cons r rr =>
   cases rr
   cases r
   obtain ⟨its,rv,pl,hz⟩ := I1.list hq
   refine call_enumerate_list pl.isList fun h' hen hit hsz hk => ?_
   refine wpAny_pyIter_enum hen ⟨s1.heap.objs.size + 1,[s1.heap.objs.size + 1,s1.heap.objs.size],_,_,H1,rfl,I1.kept (t' := s1.toks) hk,v6 l _ _ (Nat.succ_ne_self _),⟨⟨_,hen⟩,hit⟩,fun b hb => ?_,q⟩
   have lb : s1.heap.objs.size <= b := by
    rcases List.mem_cons.mp hb with rfl | hb
    . exact Nat.le_succ _
    . have z : b = s1.heap.objs.size := by simpa using hb
      rw [z]
      exact Nat.le_refl _
   exact I1.fpOk lb (I1.hok.fresh lb)
section
variable {g : TG} {tc : TT} {te : TE} {D : Addr} {Q : Hp -> Prop} {τ : St} {H : Hp}
theorem Ak7 {K : W.Frag} {a : Addr} {xs : List V} (Pv : Nat -> List V -> St -> Hp -> Prop) (h0 : Pv 0 [] τ H) (hl : ∀ i ys τ H,i <= xs.length -> Pv i ys τ H -> SqL K H a xs)
 (hs : ∀ i x ys τ H p,xs[i]? = some x -> Pv i ys τ H -> H p = none -> g (.ref p) τ (upd H p (.tup [.int i,x])) fun τ2 H2 => tc τ2 H2 fun b H3 => if b = true then te τ2 H3 fun y H4 => H4 D = some (.lst ys) /\ ys.length < sizeLine /\ Pv (i + 1) (ys ++ [y]) τ2 (upd H4 D (.lst (ys ++ [y]))) else Pv (i + 1) ys τ2 H3)
 (hd : ∀ ys τ H,Pv xs.length ys τ H -> Q H) : RunC (Ite K a) g tc te D Q τ H := by
 refine ⟨fun i m ys τ H => m = xs.length - i /\ i <= xs.length /\ Pv i ys τ H,⟨xs.length,by simp,Nat.zero_le _,h0⟩,?_⟩
 rintro i m ys τ H ⟨rfl,hi,pp⟩
 have q := hl i ys τ H hi pp
 by_cases hlt : i < xs.length
 . refine .inr ⟨⟨xs,xs[i],q,by simp [hlt]⟩,Pv (i + 1),fun ys' τ' H' p' => ⟨xs.length - (i + 1),by omega,rfl,hlt,p'⟩,fun x H' y => ?_⟩
   obtain ⟨p,v,hp,rfl,rfl,y⟩ := y
   exact hs i v ys τ _ p (y xs q) pp hp
 . have e : i = xs.length := by omega
   subst e
   exact .inl ⟨⟨xs,q,Nat.le_refl _⟩,hd ys τ H pp⟩
end
end L2
namespace L2
open PySem PySem.Spec PyProof.Rows
theorem Inv.turnedN {X : Cx} {pins : List (Addr × Obj)} {σ : St} {H : Hp} {s : Shared} {h' : Heap} {t' : Nat} {fp : List Addr} (I : Inv X pins σ H s) (k : ∀ b o,b ∉ fp -> s.heap.get? b = some o -> h'.get? b = some o) (hf : ∀ b ∈ fp,FpOk X pins H b) :
 Inv X pins σ H { s with heap := h',toks := t' } := by
 have ntr : ∀ c o,H c = some o -> c ∉ fp := fun c o e hm => by rw [(hf c hm).1] at e; cases e
 refine I.step (g' := s.gens) (d' := s.drawn) (ch := fp) (fun b hb => ?_) (fun b o _ _ hc e _ => k b o hc e) (fun b o _ _ hc e _ => ⟨o.slots,k b o hc e⟩) (fun _ _ _ _ n => n)
  (fun b o hc e => ⟨o,k b o hc e⟩) (fun _ _ e => e) (fun _ _ _ e => e) (fun b ps e => ⟨#[],by rw [e]; simp⟩) (fun m hm => ?_) (fun b u e => ?_) I.bare
 . have f := hf b hb
   exact ⟨f.2.2.2.1,f.2.1,f.2.2.2.2.1,f.2.2.2.2.2⟩
 . obtain ⟨o,es',ep,ho,r⟩ := hm
   exact ⟨o,es',ep,k _ o (fun z => (hf _ z).2.1 rfl) ho,r⟩
 . refine (I.hok b u e).stay (fun c y hc' q => ?_) (fun c q => q) fun c ys q => q
   rcases hc' with rfl | hc'
   . exact k _ _ (ntr _ _ e) q
   . exact k _ _ (ntr _ _ hc') q
def Itz (K : W.Frag) (a b : Addr) : It :=
 ⟨fun i H => ∃ xs ys x y,SqL K H a xs /\ SqL K H b ys /\ xs[i]? = some x /\ ys[i]? = some y,
  fun i H v H' => ∃ p x y,H p = none /\ v = .ref p /\ H' = upd H p (.tup [x,y]) /\ (∀ xs,SqL K H a xs -> xs[i]? = some x) /\ ∀ ys,SqL K H b ys -> ys[i]? = some y,
  fun i H => ∃ xs ys,SqL K H a xs /\ SqL K H b ys /\ (xs.length <= i \/ ys.length <= i)⟩
theorem An3 {P : Program} {w : World} {K : W.Frag} {es : List Expr} {x1 : Nat} {tpos : Pos} (a b z TI TO i1 i2 : Addr) (D : ZipApart z TI TO i1 i2 a b) :
 Turn P w K (.Tuple es x1 tpos) (Itz K a b) [z,TI,TO,i1,i2] z (fun i h => IsZip h z TI TO .none /\ IsPair h TI (.ref i1) (.ref i2) /\ (∃ c d,IsPair h TO c d) /\ h.IsListIter i1 a i /\ h.IsListIter i2 b i) where
 mem := by simp
 obj := fun i h st c hc => by
  obtain ⟨hz,hTI,⟨u,v,hTO⟩,⟨o1,h1,c1,d1⟩,⟨o2,h2,c2,d2⟩⟩ := st
  simp only [List.mem_cons,List.not_mem_nil,or_false] at hc
  rcases hc with rfl | rfl | rfl | rfl | rfl
  . exact ⟨_,hz,fun v q => by cases (show Data.fields _ = Data.cell v from q)⟩
  . exact ⟨_,hTI,fun v q => by cases (show Data.seq _ _ = Data.cell v from q)⟩
  . exact ⟨_,hTO,fun v q => by cases (show Data.seq _ _ = Data.cell v from q)⟩
  . exact ⟨o1,h1,fun v q => by rw [d1] at q; cases q⟩
  . exact ⟨o2,h2,fun v q => by rw [d2] at q; cases q⟩
 keep := fun i h h' st k => by
  obtain ⟨hz,hTI,⟨u,v,hTO⟩,h1,h2⟩ := st
  exact ⟨k z (by simp) _ hz,k TI (by simp) _ hTI,⟨u,v,k TO (by simp) _ hTO⟩,h1.at fun o q => k i1 (by simp) o q,h2.at fun o q => k i2 (by simp) o q⟩
 item := by
  intro X hP hw hK hc i pins s σ H E I hf st hg
  subst hP hw hK
  obtain ⟨hz,hTI,⟨u0,v0,hTO⟩,h1,h2⟩ := st
  obtain ⟨xs,ys,x,y,hqa,hqb,hx,hy⟩ := hg
  obtain ⟨ia,ra,pa,_⟩ := I.list hqa
  obtain ⟨ib,rb,pb,_⟩ := I.list hqb
  obtain ⟨u,hu,ru⟩ := ra.get hx
  obtain ⟨v,hv,rv⟩ := rb.get hy
  have hfresh : H s.heap.objs.size = none := I.hok.fresh (Nat.le_refl _)
  have ltz := Heap.lt_size hz
  refine wpAny_pyNext_zip_item D hz hTI hTO h1 h2 pa.isList pb.isList (x := u) (y := v) (by simpa using hu) (by simpa using hv) fun h' hz' hTO' h1' h2' htup hsz hk => ?_
  refine ⟨_,rfl,wpAny_letOwnedTupleGo_zip hz' fun h3 hz3 hsb => ?_⟩
  replace hsb : Heap.SameBut z h' h3 := hsb
  have kk : ∀ c o,c ∉ [z,TI,TO,i1,i2] -> s.heap.get? c = some o -> h3.get? c = some o := fun c o hc e => by
   simp only [List.mem_cons,List.not_mem_nil,or_false,not_or] at hc
   obtain ⟨n1,n2,n3,n4,n5⟩ := hc
   exact (hsb.2 c n1).trans (hk c o n1 n3 n4 n5 e)
  have ht3 : h3.get? s.heap.objs.size = some { cls := .type "tuple",data := .seq #[u,v] } := (hsb.2 _ (Nat.ne_of_gt ltz)).trans htup
  have hi1 : h3.IsListIter i1 a (i + 1) := h1'.at fun o e => (hsb.2 i1 D.i1z).trans e
  have hi2 : h3.IsListIter i2 b (i + 1) := h2'.at fun o e => (hsb.2 i2 D.i2z).trans e
  have hTI3 : IsPair h3 TI (.ref i1) (.ref i2) := (hsb.2 TI D.TIz).trans (hk _ _ D.TIz D.TITO D.TIi1 D.TIi2 hTI)
  have hTO3 : IsPair h3 TO u v := (hsb.2 TO D.TOz).trans hTO'
  have ntr : ∀ c o,H c = some o -> c ∉ [z,TI,TO,i1,i2] := fun c o e hm => by rw [(hf c hm).1] at e; cases e
  have nsz : ∀ c o,H c = some o -> c ≠ s.heap.objs.size := fun c o e => Ak e hfresh
  refine ⟨.ref s.heap.objs.size,upd H s.heap.objs.size (.tup [x,y]),?_,rfl,⟨s.heap.objs.size,x,y,hfresh,rfl,rfl,fun zs q => by rw [I.list_inj q hqa]; exact hx,fun zs q => by rw [I.list_inj q hqb]; exact hy⟩,⟨hz3,hTI3,⟨_,_,hTO3⟩,hi1,hi2⟩,fun c hc => ?_⟩
  . refine Inv.step (s := s) (h' := h3) (t' := s.toks) (H' := upd H s.heap.objs.size (.tup [x,y])) I (g' := s.gens) (d' := s.drawn) (ch := [z,TI,TO,i1,i2]) (fun c hc => ?_) (fun c o _ _ hc e _ => kk c o hc e) (fun c o _ _ hc e _ => ⟨o.slots,kk c o hc e⟩) (fun c o hc e n => ?_) (fun c o hc e => ⟨o,kk c o hc e⟩)
     (fun c zs e => by rw [Ae (nsz c _ e)]; exact e) (fun c o w' e => by rw [Ae (nsz c _ e)]; exact e) (fun c ps e => ⟨#[],by rw [Ae (nsz c _ e),e]; simp⟩) (fun m hm => ?_) (fun c w' e => ?_) I.bare
    . have f := hf c hc
      exact ⟨f.2.2.2.1,f.2.1,f.2.2.2.2.1,f.2.2.2.2.2⟩
    . rw [Ae (Nat.ne_of_lt (Heap.lt_size e))]
      exact n
    . obtain ⟨o,es',ep,ho,r⟩ := hm
      exact ⟨o,es',ep,kk _ o (fun q => (hf _ q).2.1 rfl) ho,r⟩
    . by_cases hcs : c = s.heap.objs.size
      . subst hcs
        rw [Ab] at e
        cases e
        exact ⟨(by show (2 : Nat) <= sizeLine; decide),[u,v],.cons ru (.cons rv .nil),⟨_,ht3,rfl,rfl,_,rfl⟩⟩
      . rw [Ae hcs] at e
        refine (I.hok c w' e).stay (fun c' y' hc' q => ?_) (fun c' q => by rw [Ae (nsz c' _ q)]; exact q) fun c' zs q => by rw [Ae (nsz c' _ q)]; exact q
        rcases hc' with rfl | hc'
        . exact kk _ _ (ntr _ _ e) q
        . exact kk _ _ (ntr _ _ hc') q
  . have lb : c < s.heap.objs.size := by
     simp only [List.mem_cons,List.not_mem_nil,or_false] at hc
     obtain ⟨o1,q1,_⟩ := h1
     obtain ⟨o2,q2,_⟩ := h2
     rcases hc with rfl | rfl | rfl | rfl | rfl
     . exact ltz
     . exact Heap.lt_size hTI
     . exact Heap.lt_size hTO
     . exact Heap.lt_size q1
     . exact Heap.lt_size q2
    rw [Ae (Nat.ne_of_lt lb)]
    exact (hf c hc).1
 done := by
  intro X hP hw hK hc i pins s σ H E I hf st hg
  subst hP hw hK
  obtain ⟨hz,hTI,⟨u0,v0,hTO⟩,h1,h2⟩ := st
  obtain ⟨xs,ys,hqa,hqb,hx⟩ := hg
  obtain ⟨ia,ra,pa,_⟩ := I.list hqa
  obtain ⟨ib,rb,pb,_⟩ := I.list hqb
  have la := ra.length
  have lb := rb.length
  refine wpAny_pyNext_zip_end (I.ok.hd hc) D hz hTI hTO h1 h2 pa.isList pb.isList ?_ fun h' hk => ⟨rfl,I.turnedN (t' := s.toks) (fp := [z,TI,TO,i1,i2]) (fun c o hc e => ?_) hf⟩
  . rcases hx with q | q
    . exact .inl (by simp; omega)
    . exact .inr (by simp; omega)
  . simp only [List.mem_cons,List.not_mem_nil,or_false,not_or] at hc
    obtain ⟨n1,n2,n3,n4,n5⟩ := hc
    exact hk c o n1 n3 n4 n5 e
 self := fun _ _ _ _ _ st h => wpAny_pyIter_zip st.1 h
def iZip (K : W.Frag) (ta : TA) : TI := fun σ H R => ta σ H fun vs H1 => ∃ a b,vs = [.ref a,.ref b] /\ (∃ xs,SqL K H1 a xs) /\ (∃ ys,SqL K H1 b ys) /\ R (Itz K a b) H1
theorem Al7 : bootBuiltins "zip" = some (.type "zip") := by decide +kernel
theorem A34 {X : Cx} {K : W.Frag} {es : List Expr} {x1 : Nat} {tpos : Pos} {a b : Expr} {ta : TA} {p pos : Pos} (hg : Gl X "zip") (hm : X.mg "zip" = none) (ha : PA X [a,b] ta) (hK : X.K = K := by rfl) (hs : starEach [a,b] X.env = [(false,eval a X.env),(false,eval b X.env)] := by rfl) (hs2 : starEach [b] X.env = [(false,eval b X.env)] := by rfl) :
 PI X (.Tuple es x1 tpos) (.Call (.Name "zip" p) [a,b] [] pos) (iZip K ta) := by
 subst hK
 intro pins s σ H R I h
 refine Call_ (Jc I hg hm Al7 (PyProof.Rows.callWith_type1 (thn (ha pos pins s σ H _ I h) fun us s1 ⟨vs,H1,I1,r1,q1⟩ => ?_) (by rw [hs,hs2]) (by rw [hs2]; rfl)))
 obtain ⟨la,lb,e,⟨xs,hqa⟩,⟨ys,hqb⟩,q⟩ := q1
 subst e
 cases r1 with
 | cons ra rr =>
   cases rr with
   | cons rb rr =>
     cases rr
     cases ra
     cases rb
     obtain ⟨ia,_,pa,_⟩ := I1.list hqa
     obtain ⟨ib,_,pb,_⟩ := I1.list hqb
     have a1 : la < s1.heap.objs.size := by obtain ⟨_,e,_⟩ := pa.isList; exact Heap.lt_size e
     have a2 : lb < s1.heap.objs.size := by obtain ⟨_,e,_⟩ := pb.isList; exact Heap.lt_size e
     refine call_zip_2 pa.isList pb.isList fun h' hz hTI hTO hi1 hi2 hsz hk => ?_
     refine wpAny_pyIter_zip hz ⟨s1.heap.objs.size + 4,[s1.heap.objs.size + 4,s1.heap.objs.size + 2,s1.heap.objs.size + 3,s1.heap.objs.size,s1.heap.objs.size + 1],_,_,H1,rfl,I1.kept (t' := s1.toks) hk,An3 la lb _ _ _ _ _ (zipApart_new a1 a2),⟨hz,hTI,⟨_,_,hTO⟩,hi1,hi2⟩,fun c hc => ?_,q⟩
     have lc : s1.heap.objs.size <= c := by
      simp only [List.mem_cons,List.not_mem_nil,or_false] at hc
      rcases hc with rfl | rfl | rfl | rfl | rfl
      . exact Nat.le_add_right _ _
      . exact Nat.le_add_right _ _
      . exact Nat.le_add_right _ _
      . exact Nat.le_refl _
      . exact Nat.le_add_right _ _
     exact I1.fpOk lc (I1.hok.fresh lc)
section
variable {g : TG} {tc : TT} {te : TE} {D : Addr} {Q : Hp -> Prop} {τ : St} {H : Hp}
theorem Az8 {K : W.Frag} {a b : Addr} {xs ys : List V} {n : Nat} {g : TG} {tb : TS} {D : Ends} {σ : St} {H : Hp} (hn : n = min xs.length ys.length) (Pv : Nat -> St -> Hp -> Prop) (h0 : Pv 0 σ H) (hl : ∀ i σ H,i <= n -> Pv i σ H -> SqL K H a xs /\ SqL K H b ys)
 (hs : ∀ i x y σ H p,xs[i]? = some x -> ys[i]? = some y -> Pv i σ H -> H p = none -> g (.ref p) σ (upd H p (.tup [x,y])) fun σ2 H2 => tb { D with nx := Pv (i + 1),ct := Pv (i + 1),bk := D.nx } σ2 H2) (hd : ∀ σ H,Pv n σ H -> D.nx σ H) :
 ∃ W : Nat -> Nat -> St -> Hp -> Prop,(∃ m,W 0 m σ H) /\ ∀ i m σ H,W i m σ H →
   ((Itz K a b).stop i H /\ D.nx σ H) \/ ((Itz K a b).go i H /\ ∃ N : St -> Hp -> Prop,(∀ σ' H',N σ' H' -> ∃ m',m' < m /\ W (i + 1) m' σ' H') /\ ∀ x H',(Itz K a b).yld i H x H' -> g x σ H' fun σ2 H2 => tb { D with nx := N,ct := N,bk := D.nx } σ2 H2) := by
 refine ⟨fun i m σ H => m = n - i /\ i <= n /\ Pv i σ H,⟨n,by simp,Nat.zero_le _,h0⟩,?_⟩
 rintro i m σ H ⟨rfl,hi,pp⟩
 obtain ⟨qa,qb⟩ := hl i σ H hi pp
 by_cases hlt : i < n
 . refine .inr ⟨⟨xs,ys,xs[i],ys[i],qa,qb,by simp <;> omega,by simp <;> omega⟩,Pv (i + 1),fun σ' H' p' => ⟨n - (i + 1),by omega,rfl,hlt,p'⟩,fun x H' y => ?_⟩
   obtain ⟨p,u,v,hp,rfl,rfl,y1,y2⟩ := y
   exact hs i u v σ _ p (y1 xs qa) (y2 ys qb) pp hp
 . have e : i = n := by omega
   subst e
   exact .inl ⟨⟨xs,ys,qa,qb,by omega⟩,hd σ H pp⟩
end
theorem op_mulX {X : Cx} : OpR X (binaryOp .Mult) (rI IntMulOk fun i j => .int (i * j)) := opI fun _ _ _ _ _ _ _ hc q => mul_int q hc
theorem Mx {i j : Int} (h1 : -(2 ^ 64) < i) (h2 : i < 2 ^ 64) : IntMulOk i j := CMul.ok (.inl ⟨h1,h2⟩)
theorem Ae8 {i j : Int} (h1 : -(2 ^ 64) < j) (h2 : j < 2 ^ 64) : IntMulOk i j := CMul.ok (.inr ⟨h1,h2⟩)
end L2
namespace L2
open PySem PySem.W PySem.Calls PyProof.Rows
end L2
namespace L2
open PySem PySem.Spec PyProof.Rows
section
variable {X : Cx} {pins : List (Addr × Obj)} {σ : St} {H : Hp} {s : Shared} {a : Addr} {kvs : List (Key × V)}
theorem Inv.freeze (I : Inv X pins σ H s) (e : H a = some (.dK kvs)) : ∃ o,Inv X pins σ (upd H a (.frz o (.dK kvs))) s := by
 obtain ⟨z,y,vs,r,o,es,ep,ho,c⟩ := id (I.hok a _ e)
 refine ⟨o,?_⟩
 have ne : ∀ b u,H b = some u -> u ≠ .dK kvs -> b ≠ a := fun b u q n z => by rw [z,e] at q; exact n (Option.some.inj q).symm
 have up : ∀ b u,H b = some u -> u ≠ .dK kvs -> upd H a (.frz o (.dK kvs)) b = some u := fun b u q n => by rw [Ae (ne b u q n)]; exact q
 refine I.step (g' := s.gens) (t' := s.toks) (d' := s.drawn) (h' := s.heap) (H' := upd H a (.frz o (.dK kvs))) (ch := []) (fun _ q => nomatch q) (fun b ob _ _ _ q _ => q) (fun b ob _ _ _ q _ => ⟨ob.slots,q⟩) (fun b ob _ q n => by rw [Ae (fun z => by rw [z,e] at n; cases n)]; exact n) (fun b ob _ q => ⟨ob,q⟩)
  (fun b xs q => up b _ q (by intro z; cases z)) (fun b ob u q => up b _ q (by intro z; cases z)) (fun b ps q => ⟨#[],by rw [up b _ q (by intro z; cases z)]; simp⟩) (fun m q => q) (fun b u q => ?_) I.bare
 by_cases hb : b = a
 . subst hb
   rw [Ab] at q
   cases q
   exact ⟨ho,(I.hok b _ e).stay (fun _ _ _ q => q) (fun c q => up c _ q (by intro z; cases z)) fun c xs q => up c _ q (by intro z; cases z)⟩
 . rw [Ae hb] at q
   exact (I.hok b u q).stay (fun _ _ _ q => q) (fun c q => up c _ q (by intro z; cases z)) fun c xs q => up c _ q (by intro z; cases z)
theorem Inv.thaw {o : Obj} (I : Inv X pins σ H s) (e : H a = some (.frz o (.dK kvs))) (hb : ∀ ob u,X.H₀ a ≠ some (.frz ob u)) : Inv X pins σ (upd H a (.dK kvs)) s := by
 have ne : ∀ b u,H b = some u -> u ≠ .frz o (.dK kvs) -> b ≠ a := fun b u q n z => by rw [z,e] at q; exact n (Option.some.inj q).symm
 have up : ∀ b u,H b = some u -> u ≠ .frz o (.dK kvs) -> upd H a (.dK kvs) b = some u := fun b u q n => by rw [Ae (ne b u q n)]; exact q
 have no : ∀ b,H b = none -> upd H a (.dK kvs) b = none := fun b n => by rw [Ae (fun z => by rw [z,e] at n; cases n)]; exact n
 refine ⟨I.ok,I.os,I.bare,⟨I.base.keep,I.base.slot,fun b ob q n x => no b (I.base.free b ob q n x),I.base.there,fun b xs q => up b _ (I.base.tups b xs q) (by intro z; cases z),fun b ob u q => ?_,fun b ps q => ?_⟩,I.loc,I.cell,no _ I.free,fun x c q => no _ (I.freeC x c q),fun p hp => ?_,fun b u q => ?_,I.len⟩
 . have hne : b ≠ a := fun z => hb ob u (z ▸ q)
   rw [Ae hne]
   exact I.base.frzs b ob u q
 . obtain ⟨m,q'⟩ := I.base.tbls b ps q
   exact ⟨m,up b _ q' (by intro z; cases z)⟩
 . obtain ⟨p1,p2,p3⟩ := I.pin p hp
   exact ⟨p1,no _ p2,p3⟩
 . by_cases hba : b = a
   . subst hba
     rw [Ab] at q
     cases q
     obtain ⟨_,q'⟩ := I.hok b _ e
     exact q'.stay (fun _ _ _ q => q) (fun c q => up c _ q (by intro z; cases z)) fun c xs q => up c _ q (by intro z; cases z)
   . rw [Ae hba] at q
     exact (I.hok b u q).stay (fun _ _ _ q => q) (fun c q => up c _ q (by intro z; cases z)) fun c xs q => up c _ q (by intro z; cases z)
theorem Inv.notfrz (I : Inv X pins σ H s) (e : H a = some (.dK kvs)) : ∀ ob u,X.H₀ a ≠ some (.frz ob u) := fun ob u q => by
 have := I.base.frzs a ob u q
 rw [e] at this
 cases this
theorem Inv.nodupK (I : Inv X pins σ H s) (e : Rd H a (.dK kvs)) : (kvs.map (·.1)).Nodup := by
 obtain ⟨z,hd,vs,rel,o,es,ep,_,_,_,_,_,hn⟩ := Nc I.hok e
 rw [rel.keys]
 exact hn
end
def tFrz (t : TE) : TE := fun σ H Q => t σ H Q \/ ∃ (a : Addr) (kvs : List (Key × V)),H a = some (.dK kvs) /\ ((kvs.map (·.1)).Nodup -> ∀ o : Obj,t σ (upd H a (.frz o (.dK kvs))) fun v H' => H' a = some (.frz o (.dK kvs)) /\ Q v (upd H' a (.dK kvs)))
def sFrz (t : TS) : TS := fun D σ H => t D σ H \/ ∃ (a : Addr) (kvs : List (Key × V)),H a = some (.dK kvs) /\ ((kvs.map (·.1)).Nodup -> ∀ o : Obj,t ⟨fun σ' H' => H' a = some (.frz o (.dK kvs)) /\ D.nx σ' (upd H' a (.dK kvs)),fun v H' => H' a = some (.frz o (.dK kvs)) /\ D.rt v (upd H' a (.dK kvs)),
 fun σ' H' => H' a = some (.frz o (.dK kvs)) /\ D.bk σ' (upd H' a (.dK kvs)),fun σ' H' => H' a = some (.frz o (.dK kvs)) /\ D.ct σ' (upd H' a (.dK kvs))⟩ σ (upd H a (.frz o (.dK kvs))))
theorem Ab6 {X : Cx} {e : Expr} {t : TE} (h : PE X e t) : PE X e (tFrz t) := by
 intro pins s σ H Q I hw
 rcases hw with hw | ⟨a,kvs,ea,hw⟩
 . exact h pins s σ H Q I hw
 . obtain ⟨o,I'⟩ := I.freeze ea
   have hb := I.notfrz ea
   refine thn (h pins s σ _ _ I' (hw (I.nodupK (.inl ea)) o)) fun u s' ⟨v,H',I2,r,e2,q⟩ => ⟨v,_,I2.thaw e2 hb,r,q⟩
theorem Aa6 {X : Cx} {st : Stmt} {t : TS} (h : PS X st t) : PS X st (sFrz t) := by
 intro pins s σ H D I hw
 rcases hw with hw | ⟨a,kvs,ea,hw⟩
 . exact h pins s σ H D I hw
 . obtain ⟨o,I'⟩ := I.freeze ea
   have hb := I.notfrz ea
   refine thn (h pins s σ _ _ I' (hw (I.nodupK (.inl ea)) o)) fun f s' hq => ?_
   cases f with
   | next => obtain ⟨σ',H',I2,e2,q⟩ := hq; exact ⟨σ',_,I2.thaw e2 hb,q⟩
   | brk => obtain ⟨σ',H',I2,e2,q⟩ := hq; exact ⟨σ',_,I2.thaw e2 hb,q⟩
   | cont => obtain ⟨σ',H',I2,e2,q⟩ := hq; exact ⟨σ',_,I2.thaw e2 hb,q⟩
   | ret u => obtain ⟨v,σ',H',I2,r,e2,q⟩ := hq; exact ⟨v,σ',_,I2.thaw e2 hb,r,q⟩
theorem Ah7 {X : Cx} {pins : List (Addr × Obj)} {σ : St} {H : Hp} {s : Shared} {a : Addr} {kvs : List (Key × V)} {o : Obj} (I : Inv X pins σ H s) (e : H a = some (.frz o (.dK kvs))) :
 s.heap.get? a = some o /\ (a == sysModules) = false /\ kvs.length <= sizeLine /\ ∃ vs es ep,KV kvs vs /\ o.data = .dict es ep /\ es.size = kvs.length /\ o.ExactDict /\ s.heap.DictAt (mixKind X.prog X.w) a vs ep := by
 obtain ⟨ho,z,y,vs,r,o',es,ep,ho',ex,hd,hk,hp,hn⟩ := I.hok a _ e
 rw [ho] at ho'
 cases ho'
 refine ⟨ho,y,z,vs,es,ep,r,hd,?_,ex,⟨o,es,ho,ex,hd,hk,hp,hn⟩⟩
 rw [r.length,← hp.length]
 simp
theorem KV.getV : ∀ {kvs : List (Key × V)} {vs : List (Key × Value)} {i : Nat} {k : Key} {v : V},KV kvs vs -> kvs[i]? = some (k,v) -> ∃ u,vs[i]? = some (k,u) /\ RelV v u
 | _,_,i,k,v,.nil,e => by simp at e
 | _,_,0,k,v,.cons (b := q) r t,e => by
   simp only [List.getElem?_cons_zero,Option.some.injEq] at e
   subst e
   obtain ⟨k',u⟩ := q
   have e1 : k = k' := r.1
   subst e1
   exact ⟨u,by simp,r.2⟩
 | _,_,i + 1,k,v,.cons r t,e => by
   obtain ⟨u,e1,e2⟩ := KV.getV (i := i) t (by simpa using e)
   exact ⟨u,by simpa using e1,e2⟩
theorem A68 {P : Program} {w : World} {k : Key} {u : Value} (h : (mixKind P w).is k u = true) : RelV (kV k) u := by
 rcases Bq h with ⟨i,t,rfl,rfl⟩ | ⟨x,t,rfl,rfl⟩
 . exact ⟨t,rfl⟩
 . exact ⟨t,rfl⟩
def Itm (d : Addr) (o : Obj) : It :=
 ⟨fun i H => ∃ kvs k v,H d = some (.frz o (.dK kvs)) /\ kvs[i]? = some (k,v),
  fun i H x H' => ∃ p k v,H p = none /\ x = .ref p /\ H' = upd H p (.tup [kV k,v]) /\ ∀ kvs,H d = some (.frz o (.dK kvs)) -> kvs[i]? = some (k,v),
  fun i H => ∃ kvs,H d = some (.frz o (.dK kvs)) /\ kvs.length <= i⟩
theorem N8 {prog : Program} {w : World} {A : Around} {E : Value -> Shared -> Prop} {s : Shared} {it d : Addr} {i n ep : Nat} {ok ov : Value} {Q : Value -> Shared -> Prop} (hit : IsItemIter s.heap it d i n ep ok ov) (h : Q (.ref it) s) : wpAny (model prog w) A (pyIter (.ref it)) Q E s := by
 have hT : s.TypeIs (.ref it) "dict_itemiterator" := ⟨_,hit,rfl⟩
 refine wpAny_pyIter_slot hT PySem.F.slot_dict_itemiterator_iter (wpAny_call_entry PySem.F.slot_dict_itemiterator_iter hT (entryFor_alias (id' := "dict_keyiterator.__iter__") (by kernel_rfl) rfl (by decide +kernel) (by kernel_rfl) : entryFor table "dict_itemiterator.__iter__" = some Builtin.«dict_keyiterator.__iter__») ?_ (PySem.F.args_dict_itemiterator_iter_1 _))
 show wpAny _ _ (ret (.ref it)) _ _ s
 exact wpAny_pure ⟨_,rfl,"dict_itemiterator",_,hT,PySem.F.slot_dict_itemiterator_next.lookup,h⟩
theorem Zt {P : Program} {w : World} {K : W.Frag} {tes : List Expr} {x1 : Nat} {tpos : Pos} (d it : Addr) (o : Obj) {es : Array DictEntry} {ep : Nat} (hd : o.data = .dict es ep) :
 Turn P w K (.Tuple tes x1 tpos) (Itm d o) [it] it (fun i h => ∃ ok ov,IsItemIter h it d i es.size ep ok ov) where
 mem := by simp
 obj := fun i h st b hb => by
  obtain ⟨ok,ov,h1⟩ := st
  have z : b = it := by simpa using hb
  subst z
  exact ⟨_,h1,fun v q => by cases (show Data.fields _ = Data.cell v from q)⟩
 keep := fun i h h' st k => by
  obtain ⟨ok,ov,h1⟩ := st
  exact ⟨ok,ov,k it (by simp) _ h1⟩
 item := by
  intro X hP hw hK hc i pins s σ H E I hf st hg
  subst hP hw hK
  obtain ⟨ok,ov,hit⟩ := st
  obtain ⟨kvs,k,v,hz,hx⟩ := hg
  obtain ⟨ho,hsys,hl,vs,es',ep',rel,hd',hsz,ex,hm⟩ := Ah7 I hz
  rw [hd] at hd'
  cases hd'
  obtain ⟨u,hu,ru⟩ := rel.getV hx
  have hn : es.size = vs.length := by rw [hsz,rel.length]
  have fi := hf it (by simp)
  have lti : it < s.heap.objs.size := Heap.lt_size hit
  have hfresh : H s.heap.objs.size = none := I.hok.fresh (Nat.le_refl _)
  rw [hn] at hit
  refine wpAny_pyNext_items_item hit hm hu fun key h' hkey hout htup hsz' hk => ?_
  refine ⟨_,rfl,wpAny_letOwnedTupleGo_items hout fun h3 hen hsb => ?_⟩
  replace hsb : Heap.SameBut it h' h3 := hsb
  have kk : ∀ b ob,b ∉ [it] -> s.heap.get? b = some ob -> h3.get? b = some ob := fun b ob n z => by
   have n1 : b ≠ it := by simpa using n
   exact (hsb.2 b n1).trans (hk b ob n1 z)
  have ht3 : h3.get? s.heap.objs.size = some { cls := .type "tuple",data := .seq #[key,u] } := (hsb.2 _ (Nat.ne_of_gt lti)).trans htup
  have ntr : ∀ c ob,H c = some ob -> c ∉ [it] := fun c ob e hm => by rw [(hf c hm).1] at e; cases e
  have nsz : ∀ b ob,H b = some ob -> b ≠ s.heap.objs.size := fun b ob z => Ak z hfresh
  refine ⟨.ref s.heap.objs.size,upd H s.heap.objs.size (.tup [kV k,v]),?_,rfl,⟨s.heap.objs.size,k,v,hfresh,rfl,rfl,fun kvs' q => by rw [hz] at q; cases q; exact hx⟩,⟨_,_,by rw [hn]; exact hen⟩,fun b hb => ?_⟩
  . refine Inv.step (s := s) (h' := h3) (t' := s.toks) (H' := upd H s.heap.objs.size (.tup [kV k,v])) I (g' := s.gens) (d' := s.drawn) (ch := [it]) (fun b hb => ?_) (fun b ob _ _ hb z _ => kk b ob hb z) (fun b ob _ _ hb z _ => ⟨ob.slots,kk b ob hb z⟩) (fun b ob hb z n => ?_) (fun b ob hb z => ⟨ob,kk b ob hb z⟩)
     (fun b ys z => by rw [Ae (nsz b _ z)]; exact z) (fun b ob w' z => by rw [Ae (nsz b _ z)]; exact z) (fun b ps z => ⟨#[],by rw [Ae (nsz b _ z),z]; simp⟩) (fun m hm => ?_) (fun b w' z => ?_) I.bare
    . have f := hf b hb
      exact ⟨f.2.2.2.1,f.2.1,f.2.2.2.2.1,f.2.2.2.2.2⟩
    . rw [Ae (Nat.ne_of_lt (Heap.lt_size z))]
      exact n
    . obtain ⟨ob,es',ep',hob,r⟩ := hm
      exact ⟨ob,es',ep',kk _ ob (fun q => (hf _ q).2.1 rfl) hob,r⟩
    . by_cases hb : b = s.heap.objs.size
      . subst hb
        rw [Ab] at z
        cases z
        exact ⟨(by show (2 : Nat) <= sizeLine; decide),[key,u],.cons (A68 hkey) (.cons ru .nil),⟨_,ht3,rfl,rfl,_,rfl⟩⟩
      . rw [Ae hb] at z
        refine (I.hok b w' z).stay (fun c y hc' q => ?_) (fun c q => by rw [Ae (nsz c _ q)]; exact q) fun c ys q => by rw [Ae (nsz c _ q)]; exact q
        rcases hc' with rfl | hc'
        . exact kk _ _ (ntr _ _ z) q
        . exact kk _ _ (ntr _ _ hc') q
  . have z : b = it := by simpa using hb
    subst z
    rw [Ae (Nat.ne_of_lt lti)]
    exact (hf b hb).1
 done := by
  intro X hP hw hK hc i pins s σ H E I hf st hg
  subst hP hw hK
  obtain ⟨ok,ov,hit⟩ := st
  obtain ⟨kvs,hz,hx⟩ := hg
  obtain ⟨ho,hsys,hl,vs,es',ep',rel,hd',hsz,ex,hm⟩ := Ah7 I hz
  rw [hd] at hd'
  cases hd'
  have hn : es.size = vs.length := by rw [hsz,rel.length]
  have hl2 := rel.length
  rw [hn] at hit
  exact wpAny_pyNext_items_end (I.ok.hd hc) hit hm (by simp; omega) fun h' eb => ⟨rfl,I.turnedN (t' := s.toks) (fp := [it]) (fun b ob hb z => eb b ob (by simpa using hb) z) hf⟩
 self := fun _ _ _ _ _ st h => by
  obtain ⟨ok,ov,hit⟩ := st
  exact N8 hit h
def A71 (td : TE) : TI := fun σ H R => td σ H fun x H1 => ∃ d o kvs,x = .ref d /\ H1 d = some (.frz o (.dK kvs)) /\ R (Itm d o) H1
theorem Ic {X : Cx} {tes : List Expr} {x1 : Nat} {tpos apos cpos : Pos} {e : Expr} {td : TE} (he : PE X e td)
 (hbase : attributeBase e "items" X.env (eval e X.env) = eval e X.env := by rfl) (hline : (apos.endLine == cpos.line) = true := by rfl) : PI X (.Tuple tes x1 tpos) (.Call (.Attribute e "items" apos) [] [] cpos) (A71 td) := by
 intro pins s σ H R I h
 refine wpAny_Call_method0_late hbase hline (thn (he pins s σ H _ I h) fun v s1 ⟨x,H1,I1,r1,d,o,kvs,ex,hz,q⟩ => ?_)
 subst ex
 obtain rfl : v = Value.ref d := r1
 obtain ⟨ho,hsys,hl,vs,es,ep,rel,hd,hsz,exd,hm⟩ := Ah7 I1 hz
 refine ⟨"dict","dict.items",PySem.F.plainAttrs_dict,PySem.F.slot_dict_items,PySem.F.type_dict_items,⟨o,ho,exd.1⟩,fun b e => by cases e; exact ⟨o,ho,exd.2.1⟩,Calls.callWith_builtin rfl (PySem.evalArgs_none ?_)⟩
 refine call_meetsIn PySem.F.slot_dict_items hm.dictOf.typeIs PySem.F.entry_dict_items (PySem.F.args_dict_items_1 _) (meets_dict_items (mixKind X.prog X.w) d hsys) ⟨⟨vs,hm.dictOf⟩,?_⟩
 have I2 : Inv X pins σ H1 { s1 with heap := s1.heap.push { cls := .type "dict_items",data := .fields #[.ref d] } } := I1.kept (t' := s1.toks) fun b ob z => Heap.get?_push_of_some _ z
 have hm2 := hm.push { cls := .type "dict_items",data := .fields #[.ref d] }
 refine wpAny_pyIter_items (s := { s1 with heap := s1.heap.push { cls := .type "dict_items",data := .fields #[.ref d] } }) (v := s1.heap.objs.size) (d := d) ⟨_,Heap.get?_push_size _ rfl,rfl,rfl⟩ hm2 ?_
 have hsz2 : (s1.heap.push { cls := .type "dict_items",data := .fields #[.ref d] }).objs.size = s1.heap.objs.size + 1 := Heap.size_push ..
 refine ⟨_,[_],_,Itm d o,H1,rfl,I2.kept (t' := s1.toks) fun b ob z => Heap.get?_push_of_some _ z,Zt d _ o hd,⟨.none,.none,?_⟩,fun b hb => ?_,q⟩
 . rw [hsz,rel.length]
   exact Heap.get?_push_size _ rfl
 . have z : b = (s1.heap.push { cls := .type "dict_items",data := .fields #[.ref d] }).objs.size := by simpa using hb
   subst z
   exact I2.fpOk (Nat.le_refl _) (I2.hok.fresh (Nat.le_refl _))
section
variable {g : TG} {tc : TT} {te : TE} {D : Addr} {Q : Hp -> Prop} {τ : St} {H : Hp}
theorem Mn {d : Addr} {o : Obj} {kvs : List (Key × V)} (Pv : Nat -> List V -> St -> Hp -> Prop) (h0 : Pv 0 [] τ H) (hl : ∀ i zs τ H,i <= kvs.length -> Pv i zs τ H -> H d = some (.frz o (.dK kvs)))
 (hs : ∀ i k v zs τ H p,kvs[i]? = some (k,v) -> Pv i zs τ H -> H p = none -> g (.ref p) τ (upd H p (.tup [kV k,v])) fun τ2 H2 => tc τ2 H2 fun b H3 => if b = true then te τ2 H3 fun y H4 => H4 D = some (.lst zs) /\ zs.length < sizeLine /\ Pv (i + 1) (zs ++ [y]) τ2 (upd H4 D (.lst (zs ++ [y]))) else Pv (i + 1) zs τ2 H3)
 (hd : ∀ zs τ H,Pv kvs.length zs τ H -> Q H) : RunC (Itm d o) g tc te D Q τ H := by
 refine ⟨fun i m zs τ H => m = kvs.length - i /\ i <= kvs.length /\ Pv i zs τ H,⟨kvs.length,by simp,Nat.zero_le _,h0⟩,?_⟩
 rintro i m zs τ H ⟨rfl,hi,pp⟩
 have q := hl i zs τ H hi pp
 by_cases hlt : i < kvs.length
 . refine .inr ⟨⟨kvs,kvs[i].1,kvs[i].2,q,by simp [hlt]⟩,Pv (i + 1),fun ys' τ' H' p' => ⟨kvs.length - (i + 1),by omega,rfl,hlt,p'⟩,fun x H' y => ?_⟩
   obtain ⟨p,k,v,hp,rfl,rfl,y⟩ := y
   exact hs i k v zs τ _ p (y kvs q) pp hp
 . have e : i = kvs.length := by omega
   subst e
   exact .inl ⟨⟨kvs,q,Nat.le_refl _⟩,hd zs τ H pp⟩
theorem O2 {d : Addr} {o : Obj} {kvs : List (Key × V)} {g : TG} {tb : TS} {D : Ends} {σ : St} {H : Hp} (Pv : Nat -> St -> Hp -> Prop) (h0 : Pv 0 σ H) (hl : ∀ i σ H,i <= kvs.length -> Pv i σ H -> H d = some (.frz o (.dK kvs)))
 (hs : ∀ i k v σ H p,kvs[i]? = some (k,v) -> Pv i σ H -> H p = none -> g (.ref p) σ (upd H p (.tup [kV k,v])) fun σ2 H2 => tb { D with nx := Pv (i + 1),ct := Pv (i + 1),bk := D.nx } σ2 H2) (hd : ∀ σ H,Pv kvs.length σ H -> D.nx σ H) :
 ∃ W : Nat -> Nat -> St -> Hp -> Prop,(∃ m,W 0 m σ H) /\ ∀ i m σ H,W i m σ H →
   ((Itm d o).stop i H /\ D.nx σ H) \/ ((Itm d o).go i H /\ ∃ N : St -> Hp -> Prop,(∀ σ' H',N σ' H' -> ∃ m',m' < m /\ W (i + 1) m' σ' H') /\ ∀ x H',(Itm d o).yld i H x H' -> g x σ H' fun σ2 H2 => tb { D with nx := N,ct := N,bk := D.nx } σ2 H2) := by
 refine ⟨fun i m σ H => m = kvs.length - i /\ i <= kvs.length /\ Pv i σ H,⟨kvs.length,by simp,Nat.zero_le _,h0⟩,?_⟩
 rintro i m σ H ⟨rfl,hi,pp⟩
 have q := hl i σ H hi pp
 by_cases hlt : i < kvs.length
 . refine .inr ⟨⟨kvs,kvs[i].1,kvs[i].2,q,by simp [hlt]⟩,Pv (i + 1),fun σ' H' p' => ⟨kvs.length - (i + 1),by omega,rfl,hlt,p'⟩,fun x H' y => ?_⟩
   obtain ⟨p,k,v,hp,rfl,rfl,y⟩ := y
   exact hs i k v σ _ p (y kvs q) pp hp
 . have e : i = kvs.length := by omega
   subst e
   exact .inl ⟨⟨kvs,q,Nat.le_refl _⟩,hd σ H pp⟩
end
end L2
namespace L2
open PySem PySem.Spec PyProof.Rows PySem.SeqAt
theorem Tt {ms : List (Int × Int)} : ((cK ms).map (·.1)).Nodup ↔ (ms.map (·.1)).Nodup := by
 unfold cK List.Nodup
 rw [List.map_map,List.pairwise_map,List.pairwise_map]
 constructor
 . intro h; exact h.imp fun {a b} n z => n (by simp [z])
 . intro h; exact h.imp fun {a b} n z => n (by simpa using z)
section
variable {X : Cx} {pins : List (Addr × Obj)} {σ : St} {H : Hp} {s : Shared} {a : Addr} {ms : List (Int × Int)}
end
section
variable {X : Cx} {n : Nat} {K : W.Frag}
theorem Yu : Fp X (.builtin "isinstance") (fun xs H Q => ∃ a kvs,xs = [.ref a,.ty "dict"] /\ Rd H a (.dK kvs) /\ Q (.bl true) H) := by
 intro pins s σ H xs us Q I r h
 obtain ⟨a,kvs,rfl,e,q⟩ := h
 obtain ⟨u,v,rfl,rx,rt⟩ := u8 r
 cases rt
 cases rx
 obtain ⟨z,hd,vs,rel,o,es,ep,ho,ex,_⟩ := Nc I.hok e
 exact PySem.IsiPair.dict_dict ho ex.1 ⟨.bl true,H,I,rfl,q⟩
end
end L2
namespace L2
open PySem PySem.Spec PyProof.Rows
theorem R9 {X : Cx} : Fp X (.type "dict") (fun xs H Q => ∃ a kvs,xs = [.ref a] /\ Rd H a (.dK kvs) /\ ∀ p,H p = none -> Q (.ref p) (upd H p (.dK kvs))) := by
 intro pins s σ H xs us Q I r h
 obtain ⟨a,kvs,rfl,e,q⟩ := h
 obtain ⟨u,rfl,rx⟩ := So r
 cases rx
 exact Ar7 I e fun p s' hp I' => ⟨.ref p,_,I',rfl,q p hp⟩
theorem u1 {n c : Nat} (h : n + 8 < c) : n + 1 < c := by omega
def getI (ms : List (Int × Int)) (k : Int) : Int := (A0 ms k).getD 0
def putI (ms : List (Int × Int)) (k v : Int) : List (Int × Int) := if (ms.any fun p => decide (p.1 = k)) = true then ms.map (fun p => if p.1 = k then (p.1,v) else p) else ms ++ [(k,v)]
def Pa (ms : List (Int × Int)) (k : Int) : List (Int × Int) := ms.filter fun p => decide (p.1 ≠ k)
theorem A79 (ms : List (Int × Int)) (k v : Int) : putK (cK ms) (Sum.inl k) (V.int v) = cK (putI ms k v) := by
 unfold putK putI cK
 have e : ((ms.map fun p => ((Sum.inl p.1 : Key),V.int p.2)).any fun kv => decide (kv.1 = Sum.inl k)) = (ms.any fun p => decide (p.1 = k)) := by
  rw [List.any_map]
  congr 1
  funext p
  simp
 rw [e]
 split
 . rw [List.map_map,List.map_map]
   congr 1
   funext p
   simp only [Function.comp]
   by_cases q : p.1 = k
   . simp [q]
   . have q' : ¬ (Sum.inl p.1 : Key) = Sum.inl k := fun z => q (by simpa using z)
     simp [q]
 . simp
theorem A11 (ms : List (Int × Int)) (k : Int) : V5 (cK ms) (Sum.inl k) = cK (Pa ms k) := by
 unfold V5 Pa cK
 rw [List.filter_map]
 congr 1
 congr 1
 funext p
 simp
theorem K4 (ms : List (Int × Int)) (k : Int) : valV (cK ms) (Sum.inl k) = (A0 ms k).map V.int := by
 unfold A0 cK valV
 rw [List.find?_map,Option.map_map,Option.map_map]
 have e : ((fun p : Key × V => decide (p.1 = Sum.inl k)) ∘ fun p : Int × Int => ((Sum.inl p.1 : Key),V.int p.2)) = fun p : Int × Int => decide (p.1 = k) := by
  funext p
  simp
 rw [e]
 rfl
theorem Al6 (ms : List (Int × Int)) (k : Int) : ((A0 ms k).map V.int).getD (V.int 0) = V.int (getI ms k) := by
 unfold getI
 cases A0 ms k <;> rfl
theorem Bl (p : Int × Int) (ms : List (Int × Int)) (k : Int) : A0 (p :: ms) k = if p.1 = k then some p.2 else A0 ms k := by
 unfold A0
 by_cases q : p.1 = k
 . rw [List.find?_cons_of_pos (by simpa using q),if_pos q]; rfl
 . rw [List.find?_cons_of_neg (by simpa using q),if_neg q]
theorem Kp (ms : List (Int × Int)) (k v j : Int) : A0 (putI ms k v) j = if j = k then some v else A0 ms j := by
 have hs : ∀ (ns : List (Int × Int)),A0 (ns.map (fun p => if p.1 = k then (p.1,v) else p)) j = if j = k then (A0 ns j).map (fun _ => v) else A0 ns j := by
  intro ns
  induction ns with
  | nil => simp [A0]
  | cons p ns ih =>
    rw [List.map_cons,Bl,Bl,ih]
    by_cases e1 : p.1 = k
    . by_cases e2 : j = k
      . simp [e1,e2]
      . have e3 : ¬ k = j := fun z => e2 z.symm
        simp [e1,e2,e3]
    . by_cases e2 : j = k
      . simp [e1,e2]
      . simp [e1,e2]
 have hn : ∀ (ns : List (Int × Int)),(ns.any fun p => decide (p.1 = k)) = (A0 ns k).isSome := by
  intro ns
  induction ns with
  | nil => rfl
  | cons p ns ih =>
    rw [List.any_cons,Bl,ih]
    by_cases e1 : p.1 = k <;> simp [e1]
 have ha : ∀ (ns : List (Int × Int)),A0 (ns ++ [(k,v)]) j = (A0 ns j).or (if k = j then some v else none) := by
  intro ns
  induction ns with
  | nil => simp [Bl,A0]
  | cons p ns ih =>
    rw [List.cons_append,Bl,Bl,ih]
    by_cases e1 : p.1 = j <;> simp [e1]
 unfold putI
 rw [hn]
 cases q : A0 ms k with
 | some z =>
   simp only [Option.isSome_some,if_true]
   rw [hs]
   by_cases e : j = k
   . subst e; simp [q]
   . simp [e]
 | none =>
   simp only [Option.isSome_none,Bool.false_eq_true,if_false]
   rw [ha]
   by_cases e : j = k
   . subst e; simp [q]
   . have e' : ¬ k = j := fun z => e z.symm
     simp [e,e']
theorem i3 (ms : List (Int × Int)) (k j : Int) : A0 (Pa ms k) j = if j = k then none else A0 ms j := by
 unfold Pa
 induction ms with
 | nil => simp [A0]
 | cons p ms ih =>
   rw [List.filter_cons,Bl]
   by_cases e1 : p.1 = k
   . rw [if_neg (by simpa using e1),ih]
     by_cases e2 : j = k
     . simp [e2]
     . have e3 : ¬ p.1 = j := fun z => e2 (by rw [← z,e1])
       simp [e2,e3]
   . rw [if_pos (by simpa using e1),Bl,ih]
     by_cases e2 : j = k
     . subst e2; simp [e1]
     . simp [e2]
end L2
namespace L2
open PySem PySem.Spec PyProof.Rows
inductive DA where
 | d (d : D) | dic
def RepA (K : W.Frag) (H : Hp) (v : V) : DA -> Prop
 | .d d => Rep K H v d
 | .dic => ∃ a kvs,v = .ref a /\ Rd H a (.dK kvs)
def isA (n : String) : DA -> Bool
 | .d d => isD n d
 | .dic => n == "dict"
theorem Al4 {X : Cx} {K : W.Frag} (hK : X.K = K := by rfl) : Fp X (.builtin "isinstance") (fun xs H Q => ∃ x n d,xs = [x,.ty n] /\ (n = "int" \/ n = "bool" \/ n = "str" \/ n = "tuple" \/ n = "list" \/ n = "dict") /\ RepA K H x d /\ Q (.bl (isA n d)) H) := by
 subst hK
 intro pins s σ H xs us Q I r h
 obtain ⟨x,n,d,e,hn,hx,q⟩ := h
 cases d with
 | d d => exact J0 pins s σ H xs us Q I r ⟨x,n,d,e,hn,hx,q⟩
 | dic =>
   subst e
   obtain ⟨a,kvs,rfl,hr⟩ := hx
   obtain ⟨u,v,rfl,rx,rt⟩ := u8 r
   cases rt
   cases rx
   obtain ⟨z,hd,vs,rel,o,es,ep,ho,ex,_⟩ := Nc I.hok hr
   rcases hn with rfl | rfl | rfl | rfl | rfl | rfl
   . exact PySem.IsiPair.dict_int ho ex.1 ⟨.bl false,H,I.tok _,rfl,q⟩
   . exact PySem.IsiPair.dict_bool ho ex.1 ⟨.bl false,H,I.tok _,rfl,q⟩
   . exact PySem.IsiPair.dict_str ho ex.1 ⟨.bl false,H,I.tok _,rfl,q⟩
   . exact PySem.IsiPair.dict_tuple ho ex.1 ⟨.bl false,H,I.tok _,rfl,q⟩
   . exact PySem.IsiPair.dict_list ho ex.1 ⟨.bl false,H,I.tok _,rfl,q⟩
   . exact PySem.IsiPair.dict_dict ho ex.1 ⟨.bl true,H,I,rfl,q⟩
end L2
namespace L2
open PySem PySem.Spec PyProof.Rows
section
variable {P : Program} {w : World} {K : W.Frag} {mg : Str -> Option Value} {base : Heap}
end
section
variable {X : Cx} {x : Str} {ps : List Str} {j k : Nat} {sp : Sp} {p pos : Pos} {e : Expr} {es : List Expr} {t : TA}
end
end L2
namespace L2
open PySem PySem.Spec PyProof.Rows
mutual
def toPD : D -> PyData
 | .non => .none
 | .bl b => .bool b
 | .int i => .int i
 | .str x => .str x
 | .tup ds => .tuple (toPDs ds)
 | .lst ds => .list (toPDs ds)
def toPDs : List D -> List PyData
 | [] => []
 | d :: ds => toPD d :: toPDs ds
end
section
variable {X : Cx} {pins : List (Addr × Obj)} {σ : St} {H : Hp} {s : Shared}
mutual
theorem An9 (I : Inv X pins σ H s) : ∀ (d : D) {v : V} {u : Value},Rep X.K H v d -> RelV v u -> ∃ as,Reads s.heap u (toPD d) as
 | .non,v,u,h,r => by
   cases (show v = .non from h)
   obtain rfl : u = .none := r
   exact ⟨_,.none⟩
 | .bl b,v,u,h,r => by
   cases (show v = .bl b from h)
   obtain rfl : u = .bool b := r
   exact ⟨_,.bool b⟩
 | .int i,v,u,h,r => by
   cases (show v = .int i from h)
   obtain ⟨t,rfl⟩ := r
   exact ⟨_,.int i t⟩
 | .str x,v,u,h,r => by
   cases (show v = .str x from h)
   obtain ⟨t,rfl⟩ := r
   exact ⟨_,.str x t⟩
 | .tup ds,v,u,h,r => by
   obtain ⟨a,vs,rfl,hq,hr⟩ := h
   obtain rfl : u = .ref a := r
   obtain ⟨its,rv,p,hz⟩ := I.tuple hq
   obtain ⟨o,ho,hc,n,hd⟩ := (show s.heap.IsTuple a its.toArray from p)
   obtain ⟨as,ra⟩ := readsAll_of I ds hr rv
   exact ⟨as,.tuple ho hc hd (by simpa using ra)⟩
 | .lst ds,v,u,h,r => by
   obtain ⟨a,vs,rfl,hq,hr⟩ := h
   obtain rfl : u = .ref a := r
   obtain ⟨its,rv,p,hz⟩ := I.list hq
   obtain ⟨o,ho,hc,n,hd⟩ := p.isList
   obtain ⟨as,ra⟩ := readsAll_of I ds hr rv
   exact ⟨a :: as,.list ho hc hd (by simpa using ra)⟩
theorem readsAll_of (I : Inv X pins σ H s) : ∀ (ds : List D) {vs : List V} {us : List Value},Reps X.K H vs ds -> Vals vs us -> ∃ as,ReadsAll s.heap us (toPDs ds) as
 | [],vs,us,h,r => by
   cases (show vs = [] from h)
   cases r
   exact ⟨_,.nil⟩
 | d :: ds,vs,us,h,r => by
   obtain ⟨v,q,rfl,hv,hq⟩ := h
   cases r with
   | cons r1 r2 =>
     obtain ⟨as,ra⟩ := An9 I d hv r1
     obtain ⟨bs,rb⟩ := readsAll_of I ds hq r2
     exact ⟨_,.cons ra rb⟩
end
end
mutual
theorem V1 : ∀ d : D,(toPD d).hasDict = false
 | .non => rfl
 | .bl _ => rfl
 | .int _ => rfl
 | .str _ => rfl
 | .tup ds => hasDict_toPDs ds
 | .lst ds => hasDict_toPDs ds
theorem hasDict_toPDs : ∀ ds : List D,PyData.hasDictAll (toPDs ds) = false
 | [] => rfl
 | d :: ds => by
   show ((toPD d).hasDict || PyData.hasDictAll (toPDs ds)) = false
   rw [V1 d,hasDict_toPDs ds]
   rfl
end
end L2
namespace L2
open PySem PySem.Spec PyProof.Rows
inductive DE where
 | d (d : D) | nul
inductive TH where
 | one (e : DE) | rows (es : List DE)
def RepE (K : W.Frag) (H : Hp) (v : V) : DE -> Prop
 | .d d => Rep K H v d
 | .nul => ∃ a,v = .ref a /\ Rd H a (.dK [])
def A81 (K : W.Frag) (H : Hp) : List V -> List DE -> Prop
 | [],[] => True
 | v :: vs,e :: es => RepE K H v e /\ A81 K H vs es
 | _,_ => False
def RepT (K : W.Frag) (H : Hp) (v : V) : TH -> Prop
 | .one e => RepE K H v e
 | .rows es => ∃ a vs,v = .ref a /\ SqL K H a vs /\ A81 K H vs es
def isE (n : String) : DE -> Bool
 | .d d => isD n d
 | .nul => n == "dict"
def isT (n : String) : TH -> Bool
 | .one e => isE n e
 | .rows _ => n == "list"
section
variable {X : Cx} {K : W.Frag}
theorem Wq (hK : X.K = K := by rfl) : Fp X (.builtin "isinstance") (fun xs H Q => ∃ x n t,xs = [x,.ty n] /\ (n = "int" \/ n = "bool" \/ n = "str" \/ n = "tuple" \/ n = "list" \/ n = "dict") /\ RepT K H x t /\ Q (.bl (isT n t)) H) := by
 subst hK
 intro pins s σ H xs us Q I r h
 obtain ⟨x,n,t,e,hn,hx,q⟩ := h
 match t,hx,q with
 | .one (.d d),hx,q => exact J0 pins s σ H xs us Q I r ⟨x,n,d,e,hn,hx,q⟩
 | .one .nul,hx,q =>
   obtain ⟨a,e2,hr⟩ := hx
   exact Al4 (K := X.K) rfl pins s σ H xs us Q I r ⟨x,n,.dic,e,hn,⟨a,[],e2,hr⟩,q⟩
 | .rows es,hx,q =>
   subst e
   obtain ⟨a,vs,rfl,hq,_⟩ := hx
   obtain ⟨u,v,rfl,rx,rt⟩ := u8 r
   cases rt
   cases rx
   obtain ⟨its,_,⟨o,_,e,c,_⟩,_⟩ := I.list hq
   have k := At7 (K := X.K) (d := .lst []) hn
   exact PySem.W.kia_one PySem.W.kitx_list I.kIn ⟨o,e,c⟩ k (fun z => nomatch z) fun tk => ⟨.bl (n == "list"),H,I.tok tk,rfl,q⟩
end
section
variable {X : Cx} {pins : List (Addr × Obj)} {σ : St} {H : Hp} {s : Shared}
end
structure Fin (B k : Nat) (p : PyData) : Prop where
 sh : p.showable = true
 le : p.shown.length <= B
 dp : p.depth <= k
end L2
namespace L2
open PySem PySem.Spec PyProof.Rows
section
variable {prog : Program} {w : World} {A : Around} {E : Value -> Shared -> Prop}
end
end L2
namespace L2
open PySem PySem.Spec PyProof.Rows
theorem Al9 (a v : Value) : argsOk "max" ⟨[a],[(Str.ofString "default",v)]⟩ := by unfold argsOk; kernel_rfl
section
variable {prog : Program} {w : World} {A : Around} {R : Result -> Shared -> Prop}
end
end L2
namespace L2
open PySem PySem.Spec PyProof.Rows
end L2
namespace L2
open PySem PySem.Spec PyProof.Rows
end L2
namespace L2
open PySem PySem.Spec PyProof.Rows
theorem Am0 (a : Value) : argsOk "max" ⟨[a],[]⟩ := by unfold argsOk; kernel_rfl
section
variable {prog : Program} {w : World} {A : Around} {R : Result -> Shared -> Prop}
theorem Af2 {I S : Addr} {fp : List Addr} {n : Nat} {P : Nat -> Value -> Prop} {St : Nat -> Heap -> Prop} (W : Walks prog w A.in1 I fp [I] n P St) (hSf : S ∉ fp) (hSI : S ≠ I) (ks : List Int) (hn : ks.length = n) (hn0 : 0 < n) (hP : ∀ i v,P i v -> ∃ x t,ks[i]? = some x /\ v = .int x t) :
 ∀ (k i : Nat) (s : Shared) (c : Nat) (best : Array Value),n - i = k -> i <= n -> St i s.heap -> s.heap.get? S = some { cls := .type "list",dict := none,data := .seq best c,slots := #[] } →
 ((i = 0 /\ best = #[]) \/ ∃ m t,best = #[.int m t,.int m t] /\ 0 < i /\ m ∈ ks.take i /\ ∀ x ∈ ks.take i,x <= m) →
 (∀ m t h' tk,m ∈ ks -> (∀ x ∈ ks,x <= m) -> (∀ b o,b ≠ I -> b ≠ S -> s.heap.get? b = some o -> h'.get? b = some o) -> R (.ok (.ret (.int m t))) { s with heap := h',toks := tk }) →
 codeAny (model prog w) A (.builtin "max.loop" ⟨[.ref I,.none,.ref S],[]⟩) R s := by
 have hname : (toString "max" ++ toString ".loop" : String) = "max.loop" := by decide
 intro k
 induction k with
 | zero =>
   intro i s c best hk hi hst hS hb hR
   have hin : i = n := by omega
   subst hin
   refine codeAny_builtin PySem.F.entry_max_loop ?_; rw [Around.under_plainId PySem.F.plain_max_loop _]
   show wpAny _ A.in1 (seqItems? (.ref S) >>= _) _ _ s; refine wpAny_bind (wpAny_seqItems hS rfl ?_)
   show wpAny _ A.in1 (tryCatch (pyNext (.ref I)) _ >>= _) _ _ s; skip
   refine wpAny_bind (wpAny_tryCatch (W.done s _ _ hst fun h' tk hk' => ?_))
   have hS' := hk' S _ (by simpa using hSI) hS
   rcases hb with ⟨h0,rfl⟩ | ⟨m,t,rfl,_,hm1,hm2⟩
   . omega
   . show wpAny _ A.in1 (updateSeq S (fun _ => #[]) >>= _) _ _ _
     refine wpAny_bind ?_
     refine wpAny_updateSeq hS' rfl (wpAny_bind (wpAny_letGo (wpAny_pure ?_)))
     rw [← hn,List.take_length] at hm1 hm2
     exact hR m t _ tk hm1 hm2 fun b o hbI hbS e => (Heap.get?_update_other _ _ (Ne.symm hbS)).trans (hk' b o (by simpa using hbI) e)
 | succ k ih =>
   intro i s c best hk hi hst hS hb hR
   have hlt : i < n := by omega
   refine codeAny_builtin PySem.F.entry_max_loop ?_; rw [Around.under_plainId PySem.F.plain_max_loop _]
   show wpAny _ A.in1 (seqItems? (.ref S) >>= _) _ _ s; refine wpAny_bind (wpAny_seqItems hS rfl ?_)
   show wpAny _ A.in1 (tryCatch (pyNext (.ref I)) _ >>= _) _ _ s; skip
   refine wpAny_bind (wpAny_tryCatch (W.item i s _ _ hlt hst fun v h' tk hPv hst' hk' => ?_))
   have hS' := hk' S _ (by simpa using hSI) hS
   obtain ⟨n1,t1,hx,rfl⟩ := hP i v hPv
   have htk : ks.take (i + 1) = ks.take i ++ [n1] := by rw [List.take_succ,hx]; rfl
   have upS : ∀ f : Array Value -> Array Value,St (i + 1) (h'.update S (Obj.mapSeq f)) := fun f => W.frame _ _ _ hst' fun b hb o e => (Heap.get?_update_other _ _ (fun z : S = b => hSf (by rw [z]; exact hb))).trans e
   have old : ∀ (f : Array Value -> Array Value) (b : Addr) (o : Obj),b ≠ I -> b ≠ S -> s.heap.get? b = some o -> (h'.update S (Obj.mapSeq f)).get? b = some o := fun f b o hbI hbS e => (Heap.get?_update_other _ _ (Ne.symm hbS)).trans (hk' b o (by simpa using hbI) e)
   rcases hb with ⟨h0,rfl⟩ | ⟨n2,t2,rfl,hi0,hm1,hm2⟩
   . show wpAny _ A.in1 (updateSeq S (fun _ => #[.int n1 t1,.int n1 t1]) >>= _) _ _ _
     refine wpAny_bind ?_
     refine wpAny_updateSeq hS' rfl ?_
     rw [hname]
     subst h0
     refine wpAny_pure ⟨plainId_quiet PySem.F.plain_max_loop _,ih 1 _ _ #[.int n1 t1,.int n1 t1] (by omega) hlt (upS _) (Heap.get?_update_self _ hS' rfl) (.inr ⟨n1,t1,rfl,by omega,by rw [htk]; simp,fun x hx' => ?_⟩) fun m t h'' tk' a1 a2 kk => ?_⟩
     . rw [htk] at hx'
       simp at hx'
       omega
     . exact hR m t h'' tk' a1 a2 fun b o hbI hbS e => kk b o hbI hbS (old _ b o hbI hbS e)
   . show wpAny _ A.in1 (tryCatch (holding [.int n1 t1,.int n1 t1] (richCompare .Gt (.int n1 t1) (.int n2 t2) >>= _)) _ >>= _) _ _ _
     refine wpAny_bind (wpAny_tryCatch (wpAny_holding (wpAny_bind (CmpOf.ints_gt (prog := prog) (w := w) (A := A.in1) (P := fun i v => ∃ t,v = .int (if i = 0 then n1 else n2) t) (fun i => if i = 0 then n1 else n2) (fun i v h => h) 0 1 _ _ _ _ _ ⟨t1,rfl⟩ ⟨t2,rfl⟩ ?_))))
     refine wpAny_bind (wpAny_holding (wpAny_truthy_bool ?_))
     refine wpAny_bind (wpAny_letGo (wpAny_pure ?_))
     split
     . next hgt =>
       have hgt' : n2 < n1 := by simpa using hgt
       refine wpAny_bind ?_
       refine wpAny_updateSeq hS' rfl (wpAny_bind (wpAny_letGo ?_)); rw [hname]
       refine wpAny_pure ⟨plainId_quiet PySem.F.plain_max_loop _,ih (i + 1) _ _ #[.int n1 t1,.int n1 t1] (by omega) hlt (upS _) (Heap.get?_update_self _ hS' rfl) (.inr ⟨n1,t1,rfl,by omega,by rw [htk]; simp,fun x hx' => ?_⟩) fun m t h'' tk' a1 a2 kk => ?_⟩
       . rw [htk] at hx'
         rcases List.mem_append.mp hx' with h1 | h1
         . have := hm2 x h1; omega
         . simp at h1; omega
       . exact hR m t h'' tk' a1 a2 fun b o hbI hbS e => kk b o hbI hbS (old _ b o hbI hbS e)
     . next hgt =>
       have hgt' : n1 <= n2 := by simpa using hgt
       refine wpAny_bind (wpAny_letGo ?_); rw [hname]
       refine wpAny_pure ⟨plainId_quiet PySem.F.plain_max_loop _,ih (i + 1) _ _ #[.int n2 t2,.int n2 t2] (by omega) hlt hst' hS' (.inr ⟨n2,t2,rfl,by omega,by rw [htk]; simp [hm1],fun x hx' => ?_⟩) fun m t h'' tk' a1 a2 kk => ?_⟩
       . rw [htk] at hx'
         rcases List.mem_append.mp hx' with h1 | h1
         . exact hm2 x h1
         . simp at h1; omega
       . exact hR m t h'' tk' a1 a2 fun b o hbI hbS e => kk b o hbI hbS (hk' b o (by simpa using hbI) e)
end
end L2
namespace L2
open PySem PySem.Spec PyProof.Rows
theorem Pq {X : Cx} (hc : X.calm = true) : Fp X (.builtin "max") (fun xs H Q => ∃ (p : Addr) (ks : List Int) (kvs : List (Key × V)),xs = [.ref p] /\ H p = some (.dK kvs) /\ kvs.map (·.1) = ks.map (fun k => (.inl k : Key)) /\ ks ≠ [] /\ ∀ m,m ∈ ks -> (∀ x ∈ ks,x <= m) -> Q (.int m) H) := by
 intro pins s σ H xs us Q I r h
 obtain ⟨p,ks,kvs,rfl,hp,hk,hne,q⟩ := h
 obtain ⟨u,rfl,ru⟩ := So r
 cases ru
 have hh : X.A.handled = none := I.ok.hd hc
 obtain ⟨z,hsys,vs,rel,o,es,ep,ho,c⟩ := id (I.hok p _ hp)
 have hm : s.heap.DictAt (mixKind X.prog X.w) p vs ep := ⟨o,es,ho,c⟩
 have hl : ks.length = vs.length := by rw [← rel.length]; simpa using (congrArg List.length hk).symm
 have hll : p < s.heap.objs.size := Heap.lt_size ho
 have hname : (toString "max" ++ toString ".loop" : String) = "max.loop" := by decide
 refine PyProof.Rows.kmk_tree PySem.F.kind_max PySem.F.plain_max PySem.F.entry_max (Am0 _) ?_
 show wpAny _ X.A.in1 (Builtin.Builtins.bindParams "max" ["key","default"] 0 ⟨[],[]⟩ >>= _) _ _ s
 refine wpAny_bind (wpAny_of_eq (show Builtin.Builtins.bindParams "max" ["key","default"] 0 ⟨[],[]⟩ = pure [none,none] from rfl) ?_)
 refine wpAny_bind (wpAny_pure ?_)
 refine wpAny_bind (wpAny_pyIter_dict hsys hm ?_)
 refine wpAny_bind (wpAny_newList ?_ (Nat.zero_le _))
 rw [hname]
 have hS : (s.heap.push { cls := .type "dict_keyiterator",data := .fields #[.ref p,.int 0 0,.int vs.length 0,.int ep 0] }).objs.size = s.heap.objs.size + 1 := Heap.size_push ..
 refine wpAny_pure ⟨plainId_quiet PySem.F.plain_max_loop _,?_⟩
 have hpI : p ≠ s.heap.objs.size := Nat.ne_of_lt hll
 refine Af2 (S := (s.heap.push { cls := .type "dict_keyiterator",data := .fields #[.ref p,.int 0 0,.int vs.length 0,.int ep 0] }).objs.size) (Walks.dictKeys (prog := X.prog) (w := X.w) (A := X.A.in1) (knd := mixKind X.prog X.w) hh s.heap.objs.size p hpI vs ep) ?_ (by rw [hS]; exact Nat.succ_ne_self _) ks hl (by rw [← hl]; exact List.length_pos_iff.mpr hne) (fun i v ⟨k,x,e1,e2⟩ => ?_) _ 0 _ 0 #[] rfl (Nat.zero_le _) ⟨?_,?_⟩ ?_ (.inl ⟨rfl,rfl⟩) fun m t h' tk a1 a2 kk => ?_
 . rw [hS]
   intro hq
   rcases List.mem_cons.mp hq with y | y
   . exact absurd y (Nat.succ_ne_self _)
   . have y2 : s.heap.objs.size + 1 = p := by simpa using y
     exact absurd hll (by rw [← y2]; exact Nat.not_lt.mpr (Nat.le_succ _))
 . have e5 : (vs.map (·.1))[i]? = some k := by rw [List.getElem?_map,e1]; rfl
   rw [← rel.keys,hk,List.getElem?_map] at e5
   cases hx : ks[i]? with
   | none => rw [hx] at e5; cases e5
   | some n =>
     rw [hx] at e5
     cases e5
     obtain ⟨t,ht⟩ := A68 (P := X.prog) (w := X.w) e2
     exact ⟨n,t,rfl,ht⟩
 . exact ⟨_,Heap.get?_push_of_some _ (Heap.get?_push_size _ rfl),rfl,rfl⟩
 . exact (hm.at' fun o e => Heap.get?_push_of_some _ e).at' fun o e => Heap.get?_push_of_some _ e
 . exact Heap.get?_push_size _ rfl
 . refine ⟨.int m,H,I.kept fun b o e => ?_,⟨t,rfl⟩,q m a1 a2⟩
   have hb := Heap.lt_size e
   exact kk b o (Nat.ne_of_lt hb) (by rw [hS]; exact Nat.ne_of_lt (Nat.lt_succ_of_lt hb)) (Heap.get?_push_of_some _ (Heap.get?_push_of_some _ e))
end L2
namespace L2
open PySem PySem.Spec PyProof.Rows
structure HasM (P : Program) (w : World) (K : W.Frag) (mg : Str -> Option Value) (base : Heap) (C : Addr) (m : Str) (ps : List Str) (k : Nat) (sp : Sp) : Prop where
 ex : ∃ (f : Addr) (fd : FuncData),Meth K C m f /\ J4 K fd ps [] /\ FnOk P w K mg base CX0 k f fd ps sp
structure HasC (P : Program) (w : World) (K : W.Frag) (mg : Str -> Option Value) (base : Heap) (C : Addr) (ps : List Str) (k : Nat) (sp : Sp) : Prop where
 ex : ∃ (f : Addr) (fd : FuncData),Mk K C f /\ J4 K fd ps [] /\ FnOk P w K mg base CX0 k f fd ps sp
section
variable {X : Cx} {K : W.Frag} {j k : Nat} {C : Addr} {ps : List Str} {sp : Sp} {x m f : Str} {p pos apos pos' : Pos} {e o value : Expr} {es : List Expr} {ta tv : TE} {t : TA}
theorem Tf {pl : Sem Bool} (he : PE X o ta) (c : Cls X.K C) (h : HasM X.prog X.w X.K X.mg X.base C m ps j sp) (hr : Room k X.A) (ha : PA X (e :: es) t) (hk : j <= k := by decide)
 (hst : starEach (e :: es) X.env = (false,eval e X.env) :: starEach es X.env := by rfl) (hpl : (backTo pos (starEach es X.env)).any (·.1) = false := by rfl)
 (ht : eval (.Call (.Attribute o m apos) (e :: es) [] pos) X.env = (do
   let ov ← eval o X.env
   standAt apos.atName
   let (f,first) ← holding [ov] (getMethod ov m pl)
   callWith pos f first (backTo pos (starEach (e :: es) X.env)) (backToKw pos (keywordEach [] X.env))) := by rfl) :
 PE X (.Call (.Attribute o m apos) (e :: es) [] pos) (An4 C m sp [] E0 ta t) := by
 obtain ⟨f,fd,h1,h2,h3⟩ := h.ex
 exact Aw8 he c h1 h3 (hr.mono hk) h2 .nil Ab8 ha hst hpl ht
theorem Vd {pl : Sem Bool} (he : PE X o ta) (c : Cls X.K C) (h : HasM X.prog X.w X.K X.mg X.base C m ps j sp) (hr : Room k X.A) (hk : j <= k := by decide)
 (ht : eval (.Call (.Attribute o m apos) [] [] pos) X.env = (do
   let ov ← eval o X.env
   standAt apos.atName
   let (f,first) ← holding [ov] (getMethod ov m pl)
   callWith pos f first (backTo pos (starEach [] X.env)) (backToKw pos (keywordEach [] X.env))) := by rfl) :
 PE X (.Call (.Attribute o m apos) [] [] pos) (An4 C m sp [] E0 ta tNil) := by
 obtain ⟨f,fd,h1,h2,h3⟩ := h.ex
 exact Ao5 he c h1 h3 (hr.mono hk) h2 .nil Ab8 ht
theorem Ao6 (h : HasC X.prog X.w X.K X.mg X.base C ps j sp) (hr : Room k X.A) (hg : Gl X x) (hm : X.mg x = some (.ref C)) (ha : PA X (e :: es) t) (hk : j + 1 <= k := by decide) (hdb : (x == ("__debug__" : Str)) = false := by decide)
 (he : starEach (e :: es) X.env = (false,eval e X.env) :: starEach es X.env := by rfl) (hpl : (backTo pos (starEach es X.env)).any (·.1) = false := by rfl) : PE X (.Call (.Name x p) (e :: es) [] pos) (An5 C sp [] E0 t) := by
 obtain ⟨f,fd,h1,h2,h3⟩ := h.ex
 exact Ax0 h1 h3 (hr.mono hk) hg hm h2 .nil Ab8 ha hdb he hpl
theorem Bv (he : PE X e ta) (hK : X.K = K := by rfl) (hb : attributeBase e f X.env (eval e X.env) = eval e X.env := by rfl) : PE X (.Attribute e f pos) (tFld K ta f) := by subst hK; exact A38 he hb
theorem Os (ha : PE X o ta) (hv : PE X value tv) (hK : X.K = K := by rfl) (hs : swapsWith value (some (.Attribute o f pos')) pos.line X.env = pure false := by rfl) : PS X (.Assign [.Attribute o f pos'] value pos) (sFld K ta tv f) := by subst hK; exact A32 ha hv hs
theorem Ay8 {T id : String} {name : Str} {cpos : Pos} {r : V -> List V -> Hp -> VK -> Prop} (pa : PlainAttrs T) (slot : Slot T name id) (hty : typeOf (.builtin id) = pure (.type "method_descriptor")) (hm : MtR X id r) (ho : PE X o ta) (hK : X.K = K := by rfl)
 (hbase : attributeBase o name X.env (eval o X.env) = eval o X.env := by rfl) (hline : (apos.endLine == cpos.line) = true := by rfl) : PE X (.Call (.Attribute o name apos) [] [] cpos) (tBM0 K T r ta) := by subst hK; exact A39 pa slot hty hm ho hbase hline
end
end L2
namespace L2
open PySem PySem.Spec PyProof.Rows
structure FunD (K : W.Frag) (x qual : Str) (st : Stmt) (f : Addr) (fd : FuncData) (ds : List Value) : Prop where
 ex : ∃ (oc : Value) (od : Option Addr) (kV doc pm : Value) (an : Option Addr) (cdv ct : Value) (osl : Array (Option Value)) (dt : Addr) (tn : Nat) (tsl : Array (Option Value)) (tdd : Option Addr),
  fd = PySem.W.fnOf x qual (Av st) (At st) (Af st) (.ref dt) kV doc pm an cdv ct /\ K.lookup f = some ⟨oc,od,.func fd,osl⟩ /\ PySem.W.codeIn K cdv qual = true /\ K.lookup dt = some ⟨.type "tuple",tdd,.seq ds.toArray tn,tsl⟩
 kp : PySem.W.keepIn K (.ref f) = true
section
variable {P : Program} {w : World} {K : W.Frag} {mg : Str -> Option Value} {base : Heap} {ds : List Value}
theorem FunD.ok {x qual : Str} {st : Stmt} {f : Addr} {fd : FuncData} {N ps : List Str} {k : Nat} {sp : Sp} (F : FunD K x qual st f fd ds) (S : FnScope N ps (Af st)) (len : ∀ vs H Q E,sp vs H Q E -> vs.length = ps.length)
 (hbody : ∀ (cdv : Value) (A : Around) (outer : List Env) (s : Shared) (H : Hp) (vs : List V) (Q : VK) (E : XK),Room k (A.deeper (envOfC qual (Af st) s.heap.objs.size f cdv)) -> sp vs H Q E →
   ∃ t,PSs (cxOf CX0 P w K mg base N qual (Af st) f cdv A outer s H E).nox (At st) t /\ t { nx := fun _ H' => Q .non H',rt := Q } (start N vs) H) : FnOk P w K mg base CX0 (k + 1) f fd ps sp := by
 obtain ⟨oc,od,kV,doc,pm,an,cdv,ct,osl,dt,tn,tsl,tdd,rfl,lk,hcd,_⟩ := F.ex
 refine A74 lk hcd S len fun A outer s H vs Q E hr hsp => ?_
 obtain ⟨t,h,q⟩ := hbody cdv A outer s H vs Q E hr hsp
 exact ⟨t,h.nox,q⟩
theorem FunD.binds {x qual : Str} {st : Stmt} {f : Addr} {fd : FuncData} {ps : List Str} {dd : List Value} (F : FunD K x qual st f fd ds)
 (h : ∀ (kV doc pm : Value) (an : Option Addr) (cdv ct : Value) (dt : Addr) (us : List Value),us.length + dd.length = ps.length →
   ∃ k : Option (Array Value) -> Sem (List (Str × Value)),bindArgs (PySem.W.fnOf x qual (Av st) (At st) (Af st) (.ref dt) kV doc pm an cdv ct) ⟨us,[]⟩ = seqItems? (.ref dt) >>= k /\ k (some ds.toArray) = pure (ps.zip (us ++ dd))) : J4 K fd ps dd := by
 obtain ⟨oc,od,kV,doc,pm,an,cdv,ct,osl,dt,tn,tsl,tdd,rfl,lk,hcd,lt⟩ := F.ex
 intro s us X hl
 obtain ⟨k,h1,h2⟩ := h kV doc pm an cdv ct dt us (by rw [← List.length_append]; exact hl)
 exact .of_defaults rfl (X _ _ lt) rfl h1 h2
structure A16 (P : Program) (w : World) (K : W.Frag) (mg : Str -> Option Value) (base : Heap) (C : Addr) (ps : List Str) (dvs : List V) (k : Nat) (sp : Sp) : Prop where
 ex : ∃ (f : Addr) (fd : FuncData) (ds : List Value),Mk K C f /\ J4 K fd ps ds /\ Vals dvs ds /\ FnOk P w K mg base CX0 k f fd ps sp
theorem Ab5 {X : Cx} {C : Addr} {ps : List Str} {dvs : List V} {j k : Nat} {sp : Sp} {x : Str} {p pos : Pos} (h : A16 X.prog X.w X.K X.mg X.base C ps dvs j sp) (hr : Room k X.A) (hg : Gl X x) (hm : X.mg x = some (.ref C)) (hk : j + 1 <= k := by decide) (hdb : (x == ("__debug__" : Str)) = false := by decide) :
 PE X (.Call (.Name x p) [] [] pos) (An5 C sp dvs E0 tNil) := by
 obtain ⟨f,fd,ds,M,hb,hv,F⟩ := h.ex
 exact Ao7 M F (hr.mono hk) hg hm hb hv Ab8 hdb
end
end L2
namespace L2
open PySem PySem.Spec PyProof.Rows PySem.W
section
variable {prog : Program} {w : World} {A : Around} {E : Value -> Shared -> Prop} {h : Heap} {g : Array GenState} {d : Drawn} {t : Nat} {os : OsState} {a C dx : Addr} {o : Obj} {K : Frag} {cd : ClassData} {mA : Str -> Option Value} {v : Value} {name : Str}
end
end L2
namespace L2
open PySem PySem.Spec PyProof.Rows PySem.W PySem.Builtin PySem.Builtin.ObjectAttr
section
variable {prog : Program} {w : World} {A : Around} {K : Frag} {s : Shared} {x C D : Addr} {R : Result -> Shared -> Prop}
end
section
variable {prog : Program} {w : World} {A : Around} {E : Value -> Shared -> Prop} {K : Frag} {s : Shared} {x C : Addr}
end
end L2
namespace L2
open PySem PySem.Spec PyProof.Rows PySem.W
section
variable {prog : Program} {w : World} {A : Around} {E : Value -> Shared -> Prop} {h : Heap} {g : Array GenState} {d : Drawn} {t : Nat} {os : OsState} {K : Frag} {C D f : Addr} {rest : List Value}
end
end L2
namespace L2
open PySem PySem.Spec PyProof.Rows PySem.W
section
variable {X : Cx} {K : Frag}
end
end L2
namespace L2
open PySem PySem.Spec PyProof.Rows PySem.W
section
variable {M : Model} {A : Around} {E : Value -> Shared -> Prop} {env : Env}
end
section
variable {P : Program} {w : World} {K : W.Frag} {mg : Str -> Option Value} {base : Heap} {N : List Str} {qual : Str} {scope : Scope} {f : Addr} {cd : Value} {A : Around} {outer : List Env} {s : Shared} {H : Hp} {E : XK}
end
end L2
namespace L2
open PySem PySem.Spec PyProof.Rows PySem.W
section
variable {prog : Program} {w : World} {A : Around} {E : Value -> Shared -> Prop} {h : Heap} {g : Array GenState} {d : Drawn} {t : Nat} {os : OsState} {a C dx : Addr} {o : Obj} {K : Frag} {mA : Str -> Option Value} {v : Value} {name : Str}
end
section
variable {X : Cx} {K : Frag}
end
end L2
namespace L2
open PySem PySem.Spec PyProof.Rows PySem.W
section
variable {X : Cx} {K : Frag}
end
end L2
namespace Hb
def sumN (f : Nat -> Int) : Nat -> Int
 | 0 => 0
 | n + 1 => sumN f n + f n
theorem Ax {f g : Nat -> Int} : ∀ {n : Nat},(∀ k,k < n -> f k = g k) -> sumN f n = sumN g n
 | 0,_ => rfl
 | n + 1,h => by
   show sumN f n + f n = sumN g n + g n
   rw [Ax fun k hk => h k (by omega),h n (by omega)]
theorem J6 : ∀ n : Nat,sumN (fun _ => 0) n = 0
 | 0 => rfl
 | n + 1 => by show sumN _ n + 0 = 0; rw [J6 n]; rfl
theorem J8 (f g : Nat -> Int) : ∀ n : Nat,sumN (fun k => f k + g k) n = sumN f n + sumN g n
 | 0 => rfl
 | n + 1 => by
   show sumN _ n + (f n + g n) = (sumN f n + f n) + (sumN g n + g n)
   rw [J8 f g n]
   omega
theorem E3 (c : Int) (f : Nat -> Int) : ∀ n : Nat,sumN (fun k => c * f k) n = c * sumN f n
 | 0 => by show (0 : Int) = c * 0; rw [Int.mul_zero]
 | n + 1 => by
   show sumN _ n + c * f n = c * (sumN f n + f n)
   rw [E3 c f n,Int.mul_add]
theorem No (c : Int) (f : Nat -> Int) (n : Nat) : sumN (fun k => f k * c) n = sumN f n * c := by
 rw [Int.mul_comm,← E3]
 exact Ax fun k _ => Int.mul_comm ..
theorem J7 (f : Nat -> Nat -> Int) (m : Nat) : ∀ n : Nat,sumN (fun i => sumN (f i) m) n = sumN (fun j => sumN (fun i => f i j) n) m
 | 0 => (J6 m).symm
 | n + 1 => by
   show sumN _ n + sumN (f n) m = sumN (fun j => sumN (fun i => f i j) n + f n j) m
   rw [J7 f m n,J8]
theorem Hx (f : Nat -> Int) (i : Nat) : ∀ n : Nat,sumN (fun k => (if k = i then 1 else 0) * f k) n = if i < n then f i else 0
 | 0 => by simp [sumN]
 | n + 1 => by
   show sumN _ n + (if n = i then 1 else 0) * f n = _
   rw [Hx f i n]
   by_cases h : n = i
   . subst h; simp
   . by_cases h2 : i < n
     . rw [if_pos h2,if_neg h,if_pos (by omega)]; omega
     . rw [if_neg h2,if_neg h,if_neg (by omega)]; omega
end Hb
namespace Hb
open PySem L2
abbrev Ms := List (Int × Int)
def nd (ms : Ms) : Prop := (ms.map (·.1)).Nodup
def nz (ms : Ms) : Prop := ∀ p ∈ ms,p.2 ≠ 0
def addI (ms : Ms) (k n : Int) : Ms := if getI ms k + n = 0 then Pa ms k else putI ms k (getI ms k + n)
def Dg (ms ns : Ms) : Ms := ns.foldl (fun acc p => addI acc p.1 p.2) ms
def A7 (n : Int) (ms : Ms) : Ms := if n = 0 then [] else ms.map fun p => (p.1,n * p.2)
theorem Vp {ms : Ms} {k v : Int} (h : A0 ms k = some v) : (k,v) ∈ ms := by
 induction ms with
 | nil => simp [A0] at h
 | cons p ms ih =>
   rw [Bl] at h
   by_cases e : p.1 = k
   . rw [if_pos e] at h
     have : p = (k,v) := by cases p; simp_all
     rw [this]; exact List.mem_cons_self ..
   . rw [if_neg e] at h
     exact List.mem_cons_of_mem _ (ih h)
theorem Af6 {ms : Ms} {k : Int} (h : k ∉ ms.map (·.1)) : A0 ms k = none := by
 cases e : A0 ms k with
 | none => rfl
 | some v => exact absurd (List.mem_map_of_mem (f := (·.1)) (Vp e)) h
theorem Ni {ms : Ms} (h : nd ms) {p : Int × Int} (hp : p ∈ ms) : A0 ms p.1 = some p.2 := by
 induction ms with
 | nil => cases hp
 | cons q ms ih =>
   rw [Bl]
   unfold nd at h
   rw [List.map_cons,List.nodup_cons] at h
   rcases List.mem_cons.mp hp with rfl | hp
   . rw [if_pos rfl]
   . have : ¬ q.1 = p.1 := fun z => h.1 (by rw [z]; exact List.mem_map_of_mem (f := (·.1)) hp)
     rw [if_neg this]
     exact ih h.2 hp
theorem B7 {ms : Ms} {k : Int} (h : k ∉ ms.map (·.1)) : getI ms k = 0 := by unfold getI; rw [Af6 h]; rfl
theorem Hm (p : Int × Int) (ms : Ms) (k : Int) : getI (p :: ms) k = if p.1 = k then p.2 else getI ms k := by
 unfold getI; rw [Bl]; split <;> rfl
theorem Aq5 {ms : Ms} (h : nz ms) (k : Int) : A0 ms k = if getI ms k = 0 then none else some (getI ms k) := by
 unfold getI
 cases e : A0 ms k with
 | none => rfl
 | some v =>
   have := h _ (Vp e)
   show some v = if v = 0 then none else some v
   rw [if_neg this]
theorem At6 : ∀ (l1 l2 : List Int),l1.Nodup -> (∀ x ∈ l1,x ∈ l2) -> l1.length <= l2.length
 | [],l2,_,_ => Nat.zero_le _
 | x :: l1,l2,h,hs => by
   rw [List.nodup_cons] at h
   have hx := hs x (List.mem_cons_self ..)
   have := At6 l1 (l2.erase x) h.2 fun y hy => by
    have ne : y ≠ x := fun z => h.1 (z ▸ hy)
    exact (List.mem_erase_of_ne ne).mpr (hs y (List.mem_cons_of_mem _ hy))
   have e := List.length_erase_of_mem hx
   have : 0 < l2.length := List.length_pos_of_mem hx
   rw [List.length_cons]
   omega
theorem Ay6 {ms : Ms} (h : nd ms) (k : Int) : nd (Pa ms k) := by
 unfold nd Pa at *
 exact List.Nodup.sublist (List.Sublist.map _ List.filter_sublist) h
theorem Ay4 {ms : Ms} (h : nz ms) (k : Int) : nz (Pa ms k) := fun p hp => h p (List.mem_filter.mp hp).1
theorem Am1 {ms : Ms} {k : Int} : (ms.any fun p => decide (p.1 = k)) = true ↔ k ∈ ms.map (·.1) := by
 rw [List.any_eq_true,List.mem_map]
 constructor
 . rintro ⟨p,hp,e⟩; exact ⟨p,hp,by simpa using e⟩
 . rintro ⟨p,hp,e⟩; exact ⟨p,hp,by simpa using e⟩
theorem Ae4 {ms : Ms} (h : nd ms) (k v : Int) : nd (putI ms k v) := by
 unfold nd putI at *
 split
 . rw [List.map_map]
   have e : ((fun p : Int × Int => p.1) ∘ fun p : Int × Int => if p.1 = k then (p.1,v) else p) = (·.1) := by
    funext p
    simp only [Function.comp]
    split <;> rfl
   rw [e]; exact h
 . rename_i hn
   rw [Am1] at hn
   rw [List.map_append,List.nodup_append]
   refine ⟨h,by simp,fun a ha b hb e => ?_⟩
   have : b = k := by simpa using hb
   exact hn (by rw [← this,← e]; exact ha)
theorem Af0 {ms : Ms} {k v : Int} {p : Int × Int} (hp : p ∈ putI ms k v) : p ∈ ms \/ p = (k,v) := by
 unfold putI at hp
 split at hp
 . obtain ⟨q,hq,e⟩ := List.mem_map.mp hp
   by_cases z : q.1 = k
   . rw [if_pos z] at e; right; rw [← e,z]
   . rw [if_neg z] at e; left; rw [← e]; exact hq
 . rcases List.mem_append.mp hp with h | h
   . exact .inl h
   . exact .inr (by simpa using h)
theorem X8 (ms : Ms) (k v : Int) : (putI ms k v).length <= ms.length + 1 := by
 unfold putI
 split
 . rw [List.length_map]; omega
 . rw [List.length_append]; simp
theorem Aq6 (ms : Ms) (k : Int) : (Pa ms k).length <= ms.length := List.length_filter_le ..
theorem A47 {ms : Ms} (h : nz ms) {k v : Int} (hv : v ≠ 0) : nz (putI ms k v) := fun p hp => by
 rcases Af0 hp with q | q
 . exact h p q
 . rw [q]; exact hv
theorem At4 {ms : Ms} (h : nd ms) (k n : Int) : nd (addI ms k n) := by unfold addI; split; exact Ay6 h k; exact Ae4 h k _
theorem A48 {ms : Ms} (h : nz ms) (k n : Int) : nz (addI ms k n) := by
 unfold addI
 split
 . exact Ay4 h k
 . rename_i q; exact A47 h q
theorem X9 (ms : Ms) (k n : Int) : (addI ms k n).length <= ms.length + 1 := by
 unfold addI
 split
 . have := Aq6 ms k; omega
 . exact X8 ..
theorem Ah6 (ms : Ms) (k n j : Int) : getI (addI ms k n) j = if j = k then getI ms j + n else getI ms j := by
 unfold addI
 split
 . rename_i q
   unfold getI at *
   rw [i3]
   by_cases e : j = k
   . subst e; simp; omega
   . simp [e]
 . unfold getI at *
   rw [Kp]
   by_cases e : j = k
   . subst e; simp
   . simp [e]
theorem Js : ∀ (ns ms : Ms),nd ms -> nz ms -> nd ns -> nd (Dg ms ns) /\ nz (Dg ms ns) /\ (Dg ms ns).length <= ms.length + ns.length /\ ∀ j,getI (Dg ms ns) j = getI ms j + getI ns j
 | [],ms,h1,h2,_ => ⟨h1,h2,by simp [Dg],fun j => by simp [Dg,getI,A0]⟩
 | p :: ns,ms,h1,h2,h3 => by
   unfold nd at h3
   rw [List.map_cons,List.nodup_cons] at h3
   obtain ⟨r1,r2,r3,r4⟩ := Js ns (addI ms p.1 p.2) (At4 h1 _ _) (A48 h2 _ _) h3.2
   refine ⟨r1,r2,?_,fun j => ?_⟩
   . have := X9 ms p.1 p.2
     show (Dg (addI ms p.1 p.2) ns).length <= _
     rw [List.length_cons]; omega
   . show getI (Dg (addI ms p.1 p.2) ns) j = _
     rw [r4,Ah6,Hm]
     by_cases e : j = p.1
     . have := B7 h3.1
       subst e
       simp [this]
     . have e' : ¬ p.1 = j := fun z => e z.symm
       simp [e,e']
def Aa4 (f : Int -> Int) (n : Nat) : Ms := (List.range n).map fun (i : Nat) => ((i : Int),f (i : Int))
theorem Id {ms : Ms} (h : nd ms) (n : Int) : nd (ms.map fun p => (p.1,n * p.2)) := by
 unfold nd at *
 rw [List.map_map]
 exact h
end Hb
namespace Hb
open PySem L2
theorem Nj : ∀ (ns ms : Ms),(Dg ms ns).length <= ms.length + ns.length
 | [],ms => by simp [Dg]
 | p :: ns,ms => by
   have h1 := Nj ns (addI ms p.1 p.2)
   have h2 := X9 ms p.1 p.2
   show (Dg (addI ms p.1 p.2) ns).length <= _
   rw [List.length_cons]; omega
theorem Ab4 {ms ns : Ms} {i : Nat} {q : Int × Int} (h : ns[i]? = some q) : Dg ms (ns.take (i + 1)) = addI (Dg ms (ns.take i)) q.1 q.2 := by
 unfold Dg
 rw [List.take_add_one,h,List.foldl_append]
 rfl
theorem range_succ (f : Int -> Int) (n : Nat) : Aa4 f (n + 1) = Aa4 f n ++ [((n : Int),f n)] := by
 unfold Aa4
 rw [List.range_succ,List.map_append]
 rfl
end Hb
namespace Hb
def Ai (w : List Int) (fam : Int) : List (List Int) :=
 if fam = 0 then (if w.length < 2 then [] else (List.range w.length).map fun i => w.take i ++ w.drop (i + 1))
 else if w.length = 0 then []
 else if fam < 0 then (if w.length = 1 then [[],[]] else w.map fun l => [l])
 else w.drop 1 :: ((List.range (w.length - 1)).map fun i => w.take i ++ [(w.getD i 0 + w.getD (i + 1) 0) % fam] ++ w.drop (i + 2)) ++ [w.take (w.length - 1)]
def Word (fam : Int) (w : List Int) : Prop :=
 (fam = 0 /\ 1 <= w.length /\ w.length <= 4) \/ (fam < 0 /\ (w.length = 0 \/ w.length = 1 \/ w.length = 3)) \/ (0 < fam /\ w.length <= 3)
def lv (fam : Int) (w : List Int) : Nat := if fam = 0 then w.length - 1 else if fam < 0 then (if w.length = 3 then 2 else w.length) else w.length
theorem Lf {fam : Int} {w : List Int} (h : Word fam w) :
 (fam = 0 /\ ((∃ a,w = [a]) \/ (∃ a b,w = [a,b]) \/ (∃ a b c,w = [a,b,c]) \/ ∃ a b c d,w = [a,b,c,d])) ∨
 (fam < 0 /\ (w = [] \/ (∃ a,w = [a]) \/ ∃ a b c,w = [a,b,c])) ∨
 (0 < fam /\ (w = [] \/ (∃ a,w = [a]) \/ (∃ a b,w = [a,b]) \/ ∃ a b c,w = [a,b,c])) := by
 rcases h with ⟨h0,h1,h2⟩ | ⟨h0,h1⟩ | ⟨h0,h1⟩
 . left
   refine ⟨h0,?_⟩
   match w,h1,h2 with
   | [a],_,_ => exact .inl ⟨a,rfl⟩
   | [a,b],_,_ => exact .inr (.inl ⟨a,b,rfl⟩)
   | [a,b,c],_,_ => exact .inr (.inr (.inl ⟨a,b,c,rfl⟩))
   | [a,b,c,d],_,_ => exact .inr (.inr (.inr ⟨a,b,c,d,rfl⟩))
   | _ :: _ :: _ :: _ :: _ :: _,_,h => simp at h
 . right; left
   refine ⟨h0,?_⟩
   match w,h1 with
   | [],_ => exact .inl rfl
   | [a],_ => exact .inr (.inl ⟨a,rfl⟩)
   | [a,b],h => simp at h
   | [a,b,c],_ => exact .inr (.inr ⟨a,b,c,rfl⟩)
   | _ :: _ :: _ :: _ :: _,h => simp at h
 . right; right
   refine ⟨h0,?_⟩
   match w,h1 with
   | [],_ => exact .inl rfl
   | [a],_ => exact .inr (.inl ⟨a,rfl⟩)
   | [a,b],_ => exact .inr (.inr (.inl ⟨a,b,rfl⟩))
   | [a,b,c],_ => exact .inr (.inr (.inr ⟨a,b,c,rfl⟩))
   | _ :: _ :: _ :: _ :: _,h => simp at h
theorem f0_1 (a : Int) : Ai [a] 0 = [] := rfl
theorem f0_2 (a b : Int) : Ai [a,b] 0 = [[b],[a]] := rfl
theorem f0_3 (a b c : Int) : Ai [a,b,c] 0 = [[b,c],[a,c],[a,b]] := rfl
theorem f0_4 (a b c d : Int) : Ai [a,b,c,d] 0 = [[b,c,d],[a,c,d],[a,b,d],[a,b,c]] := rfl
section
variable {fam : Int}
theorem fn_0 (h : fam < 0) : Ai [] fam = [] := by unfold Ai; rw [if_neg (by omega),if_pos (by simp)]
theorem fn_1 (h : fam < 0) (a : Int) : Ai [a] fam = [[],[]] := by unfold Ai; rw [if_neg (by omega),if_neg (by simp),if_pos h,if_pos (by simp)]
theorem fn_3 (h : fam < 0) (a b c : Int) : Ai [a,b,c] fam = [[a],[b],[c]] := by unfold Ai; rw [if_neg (by omega),if_neg (by simp),if_pos h,if_neg (by simp)]; rfl
theorem fp_0 (h : 0 < fam) : Ai [] fam = [] := by unfold Ai; rw [if_neg (by omega),if_pos (by simp)]
theorem fp_1 (h : 0 < fam) (a : Int) : Ai [a] fam = [[],[]] := by unfold Ai; rw [if_neg (by omega),if_neg (by simp),if_neg (by omega)]; rfl
theorem fp_2 (h : 0 < fam) (a b : Int) : Ai [a,b] fam = [[b],[(a + b) % fam],[a]] := by unfold Ai; rw [if_neg (by omega),if_neg (by simp),if_neg (by omega)]; rfl
theorem fp_3 (h : 0 < fam) (a b c : Int) : Ai [a,b,c] fam = [[b,c],[(a + b) % fam,c],[a,(b + c) % fam],[a,b]] := by unfold Ai; rw [if_neg (by omega),if_neg (by simp),if_neg (by omega)]; rfl
theorem Ik {w f : List Int} (h : Word fam w) (hf : f ∈ Ai w fam) : Word fam f /\ lv fam f + 1 = lv fam w := by
 rcases Lf h with ⟨h0,⟨a,rfl⟩ | ⟨a,b,rfl⟩ | ⟨a,b,c,rfl⟩ | ⟨a,b,c,d,rfl⟩⟩ | ⟨h0,rfl | ⟨a,rfl⟩ | ⟨a,b,c,rfl⟩⟩ | ⟨h0,rfl | ⟨a,rfl⟩ | ⟨a,b,rfl⟩ | ⟨a,b,c,rfl⟩⟩
 . subst h0; rw [f0_1] at hf; exact nomatch hf
 . subst h0; rw [f0_2] at hf
   simp only [List.mem_cons,List.not_mem_nil,or_false] at hf
   rcases hf with rfl | rfl <;> simp [Word,lv]
 . subst h0; rw [f0_3] at hf
   simp only [List.mem_cons,List.not_mem_nil,or_false] at hf
   rcases hf with rfl | rfl | rfl <;> simp [Word,lv]
 . subst h0; rw [f0_4] at hf
   simp only [List.mem_cons,List.not_mem_nil,or_false] at hf
   rcases hf with rfl | rfl | rfl | rfl <;> simp [Word,lv]
 . rw [fn_0 h0] at hf; exact nomatch hf
 . rw [fn_1 h0] at hf
   simp only [List.mem_cons,List.not_mem_nil,or_false,or_self] at hf
   subst hf
   have e : ¬ fam = 0 := by omega
   simp [Word,lv,h0,e]
 . rw [fn_3 h0] at hf
   have e : ¬ fam = 0 := by omega
   simp only [List.mem_cons,List.not_mem_nil,or_false] at hf
   rcases hf with rfl | rfl | rfl <;> simp [Word,lv,h0,e]
 . rw [fp_0 h0] at hf; exact nomatch hf
 . rw [fp_1 h0] at hf
   have e : ¬ fam = 0 := by omega
   have e' : ¬ fam < 0 := by omega
   simp only [List.mem_cons,List.not_mem_nil,or_false,or_self] at hf
   subst hf
   simp [Word,lv,h0,e,e']
 . rw [fp_2 h0] at hf
   have e : ¬ fam = 0 := by omega
   have e' : ¬ fam < 0 := by omega
   simp only [List.mem_cons,List.not_mem_nil,or_false] at hf
   rcases hf with rfl | rfl | rfl <;> simp [Word,lv,h0,e,e']
 . rw [fp_3 h0] at hf
   have e : ¬ fam = 0 := by omega
   have e' : ¬ fam < 0 := by omega
   simp only [List.mem_cons,List.not_mem_nil,or_false] at hf
   rcases hf with rfl | rfl | rfl | rfl <;> simp [Word,lv,h0,e,e']
theorem Fg {w : List Int} (h : Word fam w) : (Ai w fam).length = (if lv fam w = 0 then 0 else lv fam w + 1) /\ lv fam w <= 3 := by
 rcases Lf h with ⟨h0,⟨a,rfl⟩ | ⟨a,b,rfl⟩ | ⟨a,b,c,rfl⟩ | ⟨a,b,c,d,rfl⟩⟩ | ⟨h0,rfl | ⟨a,rfl⟩ | ⟨a,b,c,rfl⟩⟩ | ⟨h0,rfl | ⟨a,rfl⟩ | ⟨a,b,rfl⟩ | ⟨a,b,c,rfl⟩⟩
 . subst h0; simp [f0_1,lv]
 . subst h0; simp [f0_2,lv]
 . subst h0; simp [f0_3,lv]
 . subst h0; simp [f0_4,lv]
 all_goals have e : ¬ fam = 0 := by omega
 . simp [fn_0 h0,lv,e,h0]
 . simp [fn_1 h0,lv,e,h0]
 . simp [fn_3 h0,lv,e,h0]
 all_goals have e' : ¬ fam < 0 := by omega
 . simp [fp_0 h0,lv,e,e']
 . simp [fp_1 h0,lv,e,e']
 . simp [fp_2 h0,lv,e,e']
 . simp [fp_3 h0,lv,e,e']
theorem faces_agree {w f g : List Int} {i j : Nat} (h : Word fam w) (hl : 2 <= lv fam w) (hij : i < j) (hf : (Ai w fam)[j]? = some f) (hg : (Ai w fam)[i]? = some g) : (Ai f fam)[i]? = (Ai g fam)[j - 1]? := by
 have hj : j < (Ai w fam).length := (List.getElem?_eq_some_iff.mp hf).1
 rcases Lf h with ⟨h0,⟨a,rfl⟩ | ⟨a,b,rfl⟩ | ⟨a,b,c,rfl⟩ | ⟨a,b,c,d,rfl⟩⟩ | ⟨h0,rfl | ⟨a,rfl⟩ | ⟨a,b,c,rfl⟩⟩ | ⟨h0,rfl | ⟨a,rfl⟩ | ⟨a,b,rfl⟩ | ⟨a,b,c,rfl⟩⟩
 . subst h0; simp [lv] at hl
 . subst h0; simp [lv] at hl
 . subst h0
   rw [f0_3] at hf hg hj
   have hc : (i = 0 /\ j = 1) \/ (i = 0 /\ j = 2) \/ (i = 1 /\ j = 2) := by simp at hj; omega
   rcases hc with ⟨rfl,rfl⟩ | ⟨rfl,rfl⟩ | ⟨rfl,rfl⟩
   . simp at hf hg; subst hf hg; rfl
   . simp at hf hg; subst hf hg; rfl
   . simp at hf hg; subst hf hg; rfl
 . subst h0
   rw [f0_4] at hf hg hj
   have hc : (i = 0 /\ j = 1) \/ (i = 0 /\ j = 2) \/ (i = 0 /\ j = 3) \/ (i = 1 /\ j = 2) \/ (i = 1 /\ j = 3) \/ (i = 2 /\ j = 3) := by simp at hj; omega
   rcases hc with ⟨rfl,rfl⟩ | ⟨rfl,rfl⟩ | ⟨rfl,rfl⟩ | ⟨rfl,rfl⟩ | ⟨rfl,rfl⟩ | ⟨rfl,rfl⟩
   . simp at hf hg; subst hf hg; rfl
   . simp at hf hg; subst hf hg; rfl
   . simp at hf hg; subst hf hg; rfl
   . simp at hf hg; subst hf hg; rfl
   . simp at hf hg; subst hf hg; rfl
   . simp at hf hg; subst hf hg; rfl
 all_goals have e : ¬ fam = 0 := by omega
 . simp [lv,e,h0] at hl
 . simp [lv,e,h0] at hl
 . rw [fn_3 h0] at hf hg hj
   have hc : (i = 0 /\ j = 1) \/ (i = 0 /\ j = 2) \/ (i = 1 /\ j = 2) := by simp at hj; omega
   rcases hc with ⟨rfl,rfl⟩ | ⟨rfl,rfl⟩ | ⟨rfl,rfl⟩
   . simp at hf hg; subst hf hg; simp [fn_1 h0]
   . simp at hf hg; subst hf hg; simp [fn_1 h0]
   . simp at hf hg; subst hf hg; simp [fn_1 h0]
 all_goals have e' : ¬ fam < 0 := by omega
 . simp [lv,e,e'] at hl
 . simp [lv,e,e'] at hl
 . rw [fp_2 h0] at hf hg hj
   have hc : (i = 0 /\ j = 1) \/ (i = 0 /\ j = 2) \/ (i = 1 /\ j = 2) := by simp at hj; omega
   rcases hc with ⟨rfl,rfl⟩ | ⟨rfl,rfl⟩ | ⟨rfl,rfl⟩
   . simp at hf hg; subst hf hg; simp [fp_1 h0]
   . simp at hf hg; subst hf hg; simp [fp_1 h0]
   . simp at hf hg; subst hf hg; simp [fp_1 h0]
 . rw [fp_3 h0] at hf hg hj
   have hc : (i = 0 /\ j = 1) \/ (i = 0 /\ j = 2) \/ (i = 0 /\ j = 3) \/ (i = 1 /\ j = 2) \/ (i = 1 /\ j = 3) \/ (i = 2 /\ j = 3) := by simp at hj; omega
   rcases hc with ⟨rfl,rfl⟩ | ⟨rfl,rfl⟩ | ⟨rfl,rfl⟩ | ⟨rfl,rfl⟩ | ⟨rfl,rfl⟩ | ⟨rfl,rfl⟩
   . simp at hf hg; subst hf hg; simp [fp_2 h0]
   . simp at hf hg; subst hf hg; simp [fp_2 h0]
   . simp at hf hg; subst hf hg; simp [fp_2 h0]
   . skip
     simp at hf hg; subst hf hg
     simp only [fp_2 h0,List.getElem?_cons_succ,List.getElem?_cons_zero,Nat.add_one_sub_one]
     congr 2
     rw [Int.add_emod_emod,Int.emod_add_emod,Int.add_assoc]
   . simp at hf hg; subst hf hg; simp [fp_2 h0]
   . simp at hf hg; subst hf hg; simp [fp_2 h0]
end
def lev (p : List Int) : Nat := p.length - 1
structure Fits (xs : List (List Int)) (p : List Int) : Prop where
 cnt : p.length = 0 \/ p.length = 2 \/ p.length = 3 \/ p.length = 4
 low : ∀ f ∈ p,0 <= f
 bel : ∀ f ∈ p,∃ q,xs[f.toNat]? = some q /\ lev q + 1 = lev p
 agr : 3 <= p.length -> ∀ (i j : Nat) (f g : Int) (q r : List Int),i < j -> p[j]? = some f -> p[i]? = some g -> xs[f.toNat]? = some q -> xs[g.toNat]? = some r -> q[i]? = r[j - 1]?
def Dl (xs : List (List Int)) : Prop := ∀ (k : Nat) (p : List Int),xs[k]? = some p -> Fits (xs.take k) p
def Ord (fam : Int) (ws : List (List Int)) : Prop := ∀ (k : Nat) (w : List Int),ws[k]? = some w -> Word fam w /\ ∀ f ∈ Ai w fam,f ∈ ws.take k
theorem Ord.nil {fam : Int} : Ord fam [] := fun k w h => by simp at h
theorem Ord.snoc {fam : Int} {ws : List (List Int)} {w : List Int} (h : Ord fam ws) (hw : Word fam w) (hf : ∀ f ∈ Ai w fam,f ∈ ws) : Ord fam (ws ++ [w]) := by
 intro k v hk
 by_cases hlt : k < ws.length
 . rw [List.getElem?_append_left hlt] at hk
   rw [List.take_append_of_le_length (by omega)]
   exact h k v hk
 . have hk' : k < (ws ++ [w]).length := (List.getElem?_eq_some_iff.mp hk).1
   have e : k = ws.length := by simp at hk'; omega
   subst e
   simp at hk
   subst hk
   rw [List.take_append_of_le_length (Nat.le_refl _),List.take_length]
   exact ⟨hw,hf⟩
theorem Ord.mem {fam : Int} {ws : List (List Int)} (h : Ord fam ws) {w : List Int} (hw : w ∈ ws) : Word fam w /\ ∀ f ∈ Ai w fam,f ∈ ws := by
 obtain ⟨k,hk⟩ := List.getElem?_of_mem hw
 obtain ⟨h1,h2⟩ := h k w hk
 exact ⟨h1,fun f hf => List.mem_of_mem_take (h2 f hf)⟩
def C8 (ws : List (List Int)) : List (List Int) -> List (List Int)
 | [] => ws
 | w :: r => C8 (if w ∈ ws then ws else ws ++ [w]) r
theorem Sj : ∀ (rows ws : List (List Int)),(C8 ws rows).length <= ws.length + rows.length
 | [],ws => by simp [C8]
 | w :: r,ws => by
   have h1 := Sj r (if w ∈ ws then ws else ws ++ [w])
   have h2 : (if w ∈ ws then ws else ws ++ [w]).length <= ws.length + 1 := by
    split
    . omega
    . simp
   simp only [C8,List.length_cons]
   omega
theorem Si {fam : Int} : ∀ (rows ws : List (List Int)),Ord fam ws -> (∀ (k : Nat) (w : List Int),rows[k]? = some w -> Word fam w /\ ∀ f ∈ Ai w fam,f ∈ ws \/ f ∈ rows.take k) -> Ord fam (C8 ws rows)
 | [],ws,h,_ => h
 | w :: r,ws,h,hr => by
   have h0 := hr 0 w rfl
   have hw : ∀ f ∈ Ai w fam,f ∈ ws := fun f hf => (h0.2 f hf).resolve_right (by simp)
   simp only [C8]
   refine Si r _ ?_ fun k v hk => ?_
   . split
     . exact h
     . exact h.snoc h0.1 hw
   . obtain ⟨h1,h2⟩ := hr (k + 1) v (by simpa using hk)
     refine ⟨h1,fun f hf => ?_⟩
     rcases h2 f hf with z | z
     . left
       split
       . exact z
       . exact List.mem_append_left _ z
     . rw [List.take_succ_cons] at z
       rcases List.mem_cons.mp z with z | z
       . left
         subst z
         split
         . assumption
         . simp
       . exact .inr z
def Bw (ws : List (List Int)) : List (List Int) -> List (List Int) -> List (List Int)
 | acc,[] => acc
 | acc,f :: r => Bw ws (if f ∉ ws /\ f ∉ acc then acc ++ [f] else acc) r
theorem Sg {ws : List (List Int)} {x : List Int} : ∀ (fs acc : List (List Int)),x ∈ Bw ws acc fs -> x ∈ acc \/ x ∈ fs
 | [],acc,h => .inl h
 | f :: r,acc,h => by
   rcases Sg r _ h with z | z
   . split at z
     . rcases List.mem_append.mp z with z | z
       . exact .inl z
       . exact .inr (by simp at z; simp [z])
     . exact .inl z
   . exact .inr (List.mem_cons_of_mem _ z)
theorem J2 {ws : List (List Int)} {x : List Int} : ∀ (fs acc : List (List Int)),x ∈ acc -> x ∈ Bw ws acc fs
 | [],acc,h => h
 | f :: r,acc,h => J2 r _ (by split; exact List.mem_append_left _ h; exact h)
theorem Sh {ws : List (List Int)} {x : List Int} : ∀ (fs acc : List (List Int)),x ∈ fs -> x ∈ ws \/ x ∈ Bw ws acc fs
 | f :: r,acc,h => by
   rcases List.mem_cons.mp h with e | e
   . subst e
     by_cases h1 : x ∈ ws
     . exact .inl h1
     . right
       refine J2 r _ ?_
       by_cases h2 : x ∈ acc
       . rw [if_neg (by simp [h2])]; exact h2
       . rw [if_pos ⟨h1,h2⟩]; simp
   . exact Sh r _ e
theorem Mt {ws : List (List Int)} : ∀ (fs acc : List (List Int)),(Bw ws acc fs).length <= acc.length + fs.length
 | [],acc => by simp [Bw]
 | f :: r,acc => by
   have h1 := Mt (ws := ws) r (if f ∉ ws /\ f ∉ acc then acc ++ [f] else acc)
   have h2 : (if f ∉ ws /\ f ∉ acc then acc ++ [f] else acc).length <= acc.length + 1 := by
    split
    . simp
    . omega
   simp only [Bw,List.length_cons]
   omega
def Dk (ws : List (List Int)) (fam : Int) : List (List Int) -> List (List Int) -> List (List Int)
 | acc,[] => acc
 | acc,w :: r => Dk ws fam (Bw ws acc (Ai w fam)) r
theorem K5 {ws : List (List Int)} {fam : Int} {x : List Int} : ∀ (l acc : List (List Int)),x ∈ Dk ws fam acc l -> x ∈ acc \/ ∃ w ∈ l,x ∈ Ai w fam
 | [],acc,h => .inl h
 | w :: r,acc,h => by
   rcases K5 r _ h with z | ⟨v,hv,z⟩
   . rcases Sg _ _ z with z | z
     . exact .inl z
     . exact .inr ⟨w,List.mem_cons_self,z⟩
   . exact .inr ⟨v,List.mem_cons_of_mem _ hv,z⟩
theorem Sf {ws : List (List Int)} {fam : Int} {x : List Int} : ∀ (l acc : List (List Int)),x ∈ acc -> x ∈ Dk ws fam acc l
 | [],acc,h => h
 | w :: r,acc,h => Sf r _ (J2 _ _ h)
theorem Wx {ws : List (List Int)} {fam : Int} {x w : List Int} : ∀ (l acc : List (List Int)),w ∈ l -> x ∈ Ai w fam -> x ∈ ws \/ x ∈ Dk ws fam acc l
 | v :: r,acc,h,hx => by
   rcases List.mem_cons.mp h with e | e
   . subst e
     rcases Sh (ws := ws) _ acc hx with z | z
     . exact .inl z
     . exact .inr (Sf r _ z)
   . exact Wx r _ e hx
theorem Hw {ws : List (List Int)} {fam : Int} : ∀ (l acc : List (List Int)),(∀ w ∈ l,Word fam w) -> (Dk ws fam acc l).length <= acc.length + 4 * l.length
 | [],acc,_ => by simp [Dk]
 | w :: r,acc,h => by
   have h1 := Hw (ws := ws) r (Bw ws acc (Ai w fam)) fun v hv => h v (List.mem_cons_of_mem _ hv)
   have h2 := Mt (ws := ws) (Ai w fam) acc
   have h3 := Fg (h w List.mem_cons_self)
   simp only [Dk,List.length_cons]
   split at h3 <;> omega
theorem P1 (ws : List (List Int)) (f : List Int) : ∀ (fs acc : List (List Int)),Bw ws acc (fs ++ [f]) = (if f ∉ ws /\ f ∉ Bw ws acc fs then Bw ws acc fs ++ [f] else Bw ws acc fs)
 | [],acc => rfl
 | g :: fs,acc => P1 ws f fs _
theorem Se (ws : List (List Int)) (fam : Int) (w : List Int) : ∀ (l acc : List (List Int)),Dk ws fam acc (l ++ [w]) = Bw ws (Dk ws fam acc l) (Ai w fam)
 | [],acc => rfl
 | v :: l,acc => Se ws fam w l _
theorem P2 (w : List Int) : ∀ (rows ws : List (List Int)),C8 ws (rows ++ [w]) = (if w ∈ C8 ws rows then C8 ws rows else C8 ws rows ++ [w])
 | [],ws => rfl
 | v :: rows,ws => P2 w rows _
def Kq (ws : List (List Int)) (fam : Int) : Nat -> List (List Int) -> List (List Int) -> List (List Int)
 | 0,layer,rows => rows
 | n + 1,layer,rows => Kq ws fam n (Dk ws fam [] layer) (layer ++ rows)
theorem Vs {ws : List (List Int)} {fam : Int} : ∀ (n : Nat) (layer rows : List (List Int)),(∀ w ∈ layer,Word fam w /\ lv fam w < n) →
 (∀ (k : Nat) (w : List Int),rows[k]? = some w -> Word fam w /\ ∀ f ∈ Ai w fam,f ∈ ws \/ f ∈ layer \/ f ∈ rows.take k) →
 ∀ (k : Nat) (w : List Int),(Kq ws fam n layer rows)[k]? = some w -> Word fam w /\ ∀ f ∈ Ai w fam,f ∈ ws \/ f ∈ (Kq ws fam n layer rows).take k
 | 0,layer,rows,hl,hr,k,w,hk => by
   obtain ⟨h1,h2⟩ := hr k w hk
   refine ⟨h1,fun f hf => ?_⟩
   rcases h2 f hf with z | z | z
   . exact .inl z
   . exact absurd (hl f z).2 (by omega)
   . exact .inr z
 | n + 1,layer,rows,hl,hr,k,w,hk => by
   refine Vs n _ _ ?_ ?_ k w hk
   . intro v hv
     rcases K5 _ _ hv with z | ⟨u,hu,z⟩
     . exact nomatch z
     . obtain ⟨q1,q2⟩ := hl u hu
       obtain ⟨q3,q4⟩ := Ik q1 z
       exact ⟨q3,by omega⟩
   . intro m v hm
     by_cases hlt : m < layer.length
     . rw [List.getElem?_append_left hlt] at hm
       have hv : v ∈ layer := List.mem_of_getElem? hm
       refine ⟨(hl v hv).1,fun f hf => ?_⟩
       rcases Wx (ws := ws) layer [] hv hf with z | z
       . exact .inl z
       . exact .inr (.inl z)
     . rw [List.getElem?_append_right (by omega)] at hm
       obtain ⟨h1,h2⟩ := hr _ v hm
       refine ⟨h1,fun f hf => ?_⟩
       rcases h2 f hf with z | z | z
       . exact .inl z
       . right; right
         rw [List.take_append]
         refine List.mem_append_left _ ?_
         rw [List.take_of_length_le (by omega)]
         exact z
       . right; right
         rw [List.take_append]
         exact List.mem_append_right _ z
def J5 (ws : List (List Int)) (w : List Int) (fam : Int) : List (List Int) := C8 ws (Kq ws fam 4 [w] [])
theorem Sn {ws : List (List Int)} {w : List Int} {fam : Int} (h : Ord fam ws) (hw : Word fam w) : Ord fam (J5 ws w fam) := by
 refine Si _ _ h (Vs 4 [w] [] ?_ ?_)
 . intro v hv
   have e : v = w := by simpa using hv
   subst e
   exact ⟨hw,by have := (Fg hw).2; omega⟩
 . intro k v hk
   simp at hk
def idx (ws : List (List Int)) (f : List Int) : Nat := ws.findIdx (· == f)
theorem Az5 {ws : List (List Int)} {f : List Int} (h : f ∈ ws) : ws[idx ws f]? = some f := by
 unfold idx
 have hl : ws.findIdx (· == f) < ws.length := List.findIdx_lt_length_of_exists ⟨f,h,by simp⟩
 rw [List.getElem?_eq_getElem hl]
 have := List.findIdx_getElem (xs := ws) (p := (· == f)) (w := hl)
 simpa using this
theorem A69 {ws : List (List Int)} {f : List Int} {k : Nat} (h : f ∈ ws.take k) : idx ws f < k := by
 unfold idx
 obtain ⟨i,hi⟩ := List.getElem?_of_mem h
 have hlt : i < (ws.take k).length := (List.getElem?_eq_some_iff.mp hi).1
 rw [List.getElem?_take] at hi
 split at hi
 . rename_i hik
   have hl : i < ws.length := (List.getElem?_eq_some_iff.mp hi).1
   have e : ws[i] = f := by
    rw [List.getElem?_eq_getElem hl] at hi
    exact Option.some.inj hi
   have hle : ws.findIdx (· == f) <= i := by
    apply Nat.le_of_not_lt
    intro hgt
    have := List.not_of_lt_findIdx hgt
    simp [e] at this
   omega
 . cases hi
def Jq (ws : List (List Int)) (fam : Int) : List (List Int) := ws.map fun w => (Ai w fam).map fun f => (idx ws f : Int)
theorem Xi {ws : List (List Int)} {fam : Int} {k : Nat} {w : List Int} (h : ws[k]? = some w) : (Jq ws fam)[k]? = some ((Ai w fam).map fun f => (idx ws f : Int)) := by
 unfold Jq
 rw [List.getElem?_map,h]
 rfl
theorem S4 {ws : List (List Int)} {fam : Int} (h : Ord fam ws) : Dl (Jq ws fam) := by
 intro k p hp
 unfold Jq at hp
 rw [List.getElem?_map] at hp
 cases hw : ws[k]? with
 | none => rw [hw] at hp; cases hp
 | some w =>
   rw [hw] at hp
   have hp' : (Ai w fam).map (fun f => (idx ws f : Int)) = p := by simpa using hp
   subst hp'
   obtain ⟨h1,h2⟩ := h k w hw
   obtain ⟨n1,n2⟩ := Fg h1
   have look : ∀ f ∈ Ai w fam,((Jq ws fam).take k)[((idx ws f : Nat) : Int).toNat]? = some ((Ai f fam).map fun g => (idx ws g : Int)) := fun f hf => by
    have hm := h2 f hf
    have hlt := A69 hm
    rw [Int.toNat_natCast,List.getElem?_take,if_pos hlt]
    exact Xi (Az5 (List.mem_of_mem_take hm))
   refine ⟨?_,?_,?_,?_⟩
   . rw [List.length_map]
     by_cases hz : lv fam w = 0
     . rw [if_pos hz] at n1; omega
     . rw [if_neg hz] at n1; omega
   . intro f hf
     obtain ⟨g,_,rfl⟩ := List.mem_map.mp hf
     omega
   . intro f hf
     obtain ⟨g,hg,rfl⟩ := List.mem_map.mp hf
     refine ⟨_,look g hg,?_⟩
     obtain ⟨w1,l1⟩ := Ik h1 hg
     obtain ⟨m1,_⟩ := Fg w1
     unfold lev
     rw [List.length_map,List.length_map]
     have hz : ¬ lv fam w = 0 := by omega
     rw [if_neg hz] at n1
     by_cases hy : lv fam g = 0
     . rw [if_pos hy] at m1; omega
     . rw [if_neg hy] at m1; omega
   . intro hl i j f g q r hij hf hg hq hr
     rw [List.length_map] at hl
     rw [List.getElem?_map] at hf hg
     cases ef : (Ai w fam)[j]? with
     | none => rw [ef] at hf; cases hf
     | some F =>
       cases eg : (Ai w fam)[i]? with
       | none => rw [eg] at hg; cases hg
       | some G =>
         rw [ef] at hf
         rw [eg] at hg
         have ef' : ((idx ws F : Nat) : Int) = f := by simpa using hf
         have eg' : ((idx ws G : Nat) : Int) = g := by simpa using hg
         subst ef' eg'
         rw [look F (List.mem_of_getElem? ef)] at hq
         rw [look G (List.mem_of_getElem? eg)] at hr
         cases hq
         cases hr
         have hz : ¬ lv fam w = 0 := by intro z; rw [if_pos z] at n1; omega
         rw [if_neg hz] at n1
         rw [List.getElem?_map,List.getElem?_map,faces_agree h1 (by omega) hij ef eg]
theorem i4 {ws : List (List Int)} {fam : Int} {w : List Int} (hw : Word fam w) : (Kq ws fam 4 [w] []).length <= 85 := by
 have step : ∀ l : List (List Int),(∀ v ∈ l,Word fam v) -> (Dk ws fam [] l).length <= 4 * l.length /\ ∀ v ∈ Dk ws fam [] l,Word fam v := fun l hl => by
  refine ⟨by have := Hw (ws := ws) l [] hl; simpa using this,fun v hv => ?_⟩
  rcases K5 _ _ hv with z | ⟨u,hu,z⟩
  . exact nomatch z
  . exact (Ik (hl u hu) z).1
 have s0 : ∀ v ∈ [w],Word fam v := fun v hv => by have e : v = w := by simpa using hv
                                                  subst e; exact hw
 obtain ⟨a1,b1⟩ := step _ s0
 obtain ⟨a2,b2⟩ := step _ b1
 obtain ⟨a3,b3⟩ := step _ b2
 simp only [Kq,List.length_append,List.length_nil,List.length_cons] at a1 a2 a3 ⊢
 omega
end Hb
namespace Hb
def pc (xs : List (List Int)) (p : Int) : List Int := xs.getD p.toNat []
section
variable {xs : List (List Int)}
end
end Hb
namespace Hb
open PySem L2
def Wg (ns : List Int) (k : Int) : Int := ns.getD k.toNat 0
abbrev LT (K : W.Frag) (H : Hp) (v : V) (xs : List (List Int)) : Prop := Rep K H v (.lst (xs.map tI))
abbrev TI (K : W.Frag) (H : Hp) (v : V) (ns : List Int) : Prop := Rep K H v (tI ns)
section
variable {K : W.Frag} {H H' : Hp}
theorem TI.sq {v : V} {ns : List Int} (h : TI K H v ns) : ∃ a,v = .ref a /\ SqT K H a (ns.map V.int) := by
 obtain ⟨a,vs,e,q,r⟩ := h
 rw [Fa.mp r] at q
 exact ⟨a,e,q⟩
theorem TI.mk {a : Addr} {ns : List Int} (h : SqT K H a (ns.map V.int)) : TI K H (.ref a) ns := ⟨a,_,rfl,h,Fa.mpr rfl⟩
theorem TI.same {v : V} {ns : List Int} (s : Same H H') (h : TI K H v ns) : TI K H' v ns := Rep.same s h
theorem TI.t {v : V} {ns : List Int} (s : K8 H H') (h : TI K H v ns) : TI K H' v ns := Rep.t s (Ah0 ns) h
theorem Nm (xs : List V) (k : Nat) : cutV xs none (some (k : Int)) = xs.take k := by
 unfold cutV
 rw [HT.sIx_none,HT.sIx_nat,Nat.sub_zero,List.drop_zero,List.take_eq_take_iff]
 omega
theorem Ul (xs : List V) (k : Nat) : cutV xs (some (k : Int)) none = xs.drop k := by
 unfold cutV
 rw [HT.sIx_none,HT.sIx_nat]
 by_cases h : k <= xs.length
 . rw [Nat.min_eq_left h,List.take_of_length_le (by rw [List.length_drop]; omega)]
 . rw [Nat.min_eq_right (by omega),List.drop_length,List.drop_of_length_le (by omega)]
   simp
theorem Aa5 {D : Addr} {ys : List V} {v : V} {d : L2.D} {ds : List L2.D} (hD : H D = some (.lst ys)) (r : Reps K H ys ds) (rv : Rep K H v d) (hi : imms (ds ++ [d]) = true) : Reps K (upd H D (.lst (ys ++ [v]))) (ys ++ [v]) (ds ++ [d]) :=
 (r.snoc rv).t (K8.lst hD) hi
theorem Fx {D : Addr} {ys : List V} {v : V} {xs : List (List Int)} {x : List Int} (hD : H D = some (.lst ys)) (r : Reps K H ys (xs.map tI)) (rv : TI K H v x) : Reps K (upd H D (.lst (ys ++ [v]))) (ys ++ [v]) ((xs ++ [x]).map tI) := by
 have e : (xs ++ [x]).map tI = xs.map tI ++ [tI x] := by simp
 have h := Ih (xs ++ [x])
 rw [e] at h ⊢
 exact Aa5 hD r rv h
def SameX (B : Addr) (H H' : Hp) : Prop := ∀ b o,b ≠ B -> H b = some o -> H' b = some o
theorem SameX.refl (B : Addr) (H : Hp) : SameX B H H := fun _ _ _ h => h
theorem SameX.trans {B : Addr} {H H1 H2 : Hp} (a : SameX B H H1) (b : SameX B H1 H2) : SameX B H H2 := fun c o n h => b c o n (a c o n h)
theorem SameX.of {B : Addr} {H H1 : Hp} (a : Same H H1) : SameX B H H1 := fun c o _ h => a c o h
theorem SameX.upd {B : Addr} {H H1 : Hp} {o : HO} (a : SameX B H H1) : SameX B H (upd H1 B o) := fun c u n h => by rw [Ae n]; exact a c u n h
theorem SameX.t {B : Addr} {H H1 : Hp} {us : List V} (a : SameX B H H1) (h : H B = some (.lst us)) : K8 H H1 :=
 ⟨fun b xs e => a b _ (F3 e h (by intro z; cases z)) e,fun b o u e => a b _ (F3 e h (by intro z; cases z)) e⟩
theorem SameX.same {B : Addr} {H0 H H1 : Hp} (a : SameX B H H1) (s : Same H0 H) (h : H0 B = none) : Same H0 H1 := fun b o e => a b o (Ak e h) (s b o e)
theorem Kw : ∀ ns : List Int,deps (nums ns) = 0
 | [] => rfl
 | n :: ns => by show max (dep (.int n)) (deps (nums ns)) = 0; rw [Kw ns]; rfl
theorem Kv : ∀ xs : List (List Int),deps (xs.map tI) <= 1
 | [] => Nat.zero_le _
 | x :: xs => by
   have h1 := Kv xs
   have h2 : dep (tI x) = 1 := by show deps (nums x) + 1 = 1; rw [Kw]
   show max (dep (tI x)) (deps (xs.map tI)) <= 1
   omega
theorem Px (f : List Int) : ∀ xs : List (List Int),(xs.map tI).any (fun e => eqD e (tI f)) = decide (f ∈ xs)
 | [] => rfl
 | x :: xs => by
   rw [List.map_cons,List.any_cons,Px f xs,At9]
   by_cases h : x = f
   . subst h; simp
   . have h' : ¬ f = x := fun z => h z.symm
     simp [h,h']
theorem ifP {c A B : Prop} [Decidable c] (hc : c) (h : A) : if c then A else B := by rw [if_pos hc]; exact h
theorem ifN {c A B : Prop} [Decidable c] (hc : ¬ c) (h : B) : if c then A else B := by rw [if_neg hc]; exact h
theorem neI {a b : Int} (h : ¬ a = b) : (!decide (V.int a = V.int b)) = true := by simp [h]
theorem eqI {a b : Int} (h : a = b) : ¬ (!decide (V.int a = V.int b)) = true := by simp [h]
theorem noI {a b : Int} (h : ¬ a = b) : ¬ decide (V.int a = V.int b) = true := by simp [h]
theorem Il {g : TG} {te : TE} {D : Addr} {Q : Hp -> Prop} {τ : St} {H : Hp} {K : W.Frag} {a : Addr} {xs : List V} (Pv : Nat -> List V -> St -> Hp -> Prop) (h0 : Pv 0 [] τ H) (hl : ∀ i ys τ H,i <= xs.length -> Pv i ys τ H -> SqL K H a xs)
 (hs : ∀ i x ys τ H,xs[i]? = some x -> Pv i ys τ H -> g x τ H fun τ2 H2 => te τ2 H2 fun y H4 => H4 D = some (.lst ys) /\ ys.length < sizeLine /\ Pv (i + 1) (ys ++ [y]) τ2 (upd H4 D (.lst (ys ++ [y]))))
 (hd : ∀ ys τ H,Pv xs.length ys τ H -> Q H) : RunC (Itl K a) g tYes te D Q τ H := We Pv h0 hl (fun i x ys τ H e p => hs i x ys τ H e p) hd
theorem Pk {g : TG} {te : TE} {D : Addr} {Q : Hp -> Prop} {τ : St} {H : Hp} {K : W.Frag} {a : Addr} {xs : List V} (Pv : Nat -> List V -> St -> Hp -> Prop) (h0 : Pv 0 [] τ H) (hl : ∀ i ys τ H,i <= xs.length -> Pv i ys τ H -> SqT K H a xs)
 (hs : ∀ i x ys τ H,xs[i]? = some x -> Pv i ys τ H -> g x τ H fun τ2 H2 => te τ2 H2 fun y H4 => H4 D = some (.lst ys) /\ ys.length < sizeLine /\ Pv (i + 1) (ys ++ [y]) τ2 (upd H4 D (.lst (ys ++ [y]))))
 (hd : ∀ ys τ H,Pv xs.length ys τ H -> Q H) : RunC (Itt K a) g tYes te D Q τ H := As1 Pv h0 hl (fun i x ys τ H e p => hs i x ys τ H e p) hd
theorem Pl {g : TG} {te : TE} {D : Addr} {Q : Hp -> Prop} {τ : St} {H : Hp} {lo : Int} {n : Nat} (Pv : Nat -> List V -> St -> Hp -> Prop) (h0 : Pv 0 [] τ H)
 (hs : ∀ i ys τ H,i < n -> Pv i ys τ H -> g (.int (lo + i)) τ H fun τ2 H2 => te τ2 H2 fun y H4 => H4 D = some (.lst ys) /\ ys.length < sizeLine /\ Pv (i + 1) (ys ++ [y]) τ2 (upd H4 D (.lst (ys ++ [y]))))
 (hd : ∀ ys τ H,Pv n ys τ H -> Q H) : RunC (Itr lo n) g tYes te D Q τ H := Fh Pv h0 (fun i ys τ H e p => hs i ys τ H e p) hd
theorem Ar {t u : TS} {D : Ends} {σ : St} {H : Hp} (P : St -> Hp -> Prop) (hu : ∀ σ' H',P σ' H' -> u D σ' H') (h : (∀ σ' H',P σ' H' -> u D σ' H') -> tSeq t u D σ H) : tSeq t u D σ H := h hu
theorem k9 {f : List Int} : ∀ {ws : List (List Int)},f ∈ ws -> (ws.map tI).findIdx? (fun e => eqD e (tI f)) = some (idx ws f) := fun {ws} h => by
 have e : (ws.map tI).findIdx? (fun e => eqD e (tI f)) = ws.findIdx? (fun w => w == f) := by
  rw [List.findIdx?_map]
  congr 1
  funext w
  show eqD (tI w) (tI f) = (w == f)
  rw [At9]
  by_cases z : w = f
  . subst z; simp
  . simp [z]
 rw [e,List.findIdx?_eq_some_of_exists (xs := ws) (p := fun w => w == f) ⟨f,h,by simp⟩]
 rfl
theorem Cq {n : Nat} (h : n <= 1000000) : n < sizeLine := Nat.lt_of_le_of_lt h (by decide)
theorem A9 {n : Nat} (h : n <= 1000000) : n <= sizeLine := Nat.le_of_lt (Cq h)
end
section
variable (K : W.Frag)
def Zw : Sp := fun vs H Q _ => ∃ (a : Addr) (ns : List Int) (k : Int),vs = [.ref a,.int k] /\ SqL K H a (ns.map V.int) /\ 0 <= k /\ ns.length <= 63 /\ Q (.int (Wg ns k)) H
def Xd : Sp := fun vs H Q _ => ∃ (v : V) (w : List Int) (fam : Int),vs = [v,.int fam] /\ TI K H v w /\ Word fam w ∧
 ∀ (p : Addr) (us : List V) (H' : Hp),H p = none -> Same H H' -> H' p = some (.lst us) -> Reps K H' us ((Ai w fam).map tI) -> Q (.ref p) H'
def Zv : Sp := fun vs H Q _ => ∃ (c fam letters : Int),vs = [.int c,.int fam,.int letters] /\ 0 < letters /\ letters < 100 /\ fam < 100 ∧
 ∀ (v : V) (H' : Hp) (w : List Int),Same H H' -> TI K H' v w -> Word fam w -> Q v H'
def Ss : Sp := fun vs H Q _ => ∃ (l : Addr) (us : List V) (v : V) (ws : List (List Int)) (w : List Int) (fam : Int),vs = [.ref l,v,.int fam] /\ H l = some (.lst us) /\ Reps K H us (ws.map tI) /\ TI K H v w /\ Word fam w /\ ws.length <= 100 ∧
 ∀ (p : Addr) (us' : List V) (H' : Hp),H p = none -> Same H H' -> H' p = some (.lst us') -> Reps K H' us' ((J5 ws w fam).map tI) -> Q (.ref p) H'
def Y2 : Sp := fun vs H Q _ => ∃ (a : Addr) (ns : List Int),vs = [.ref a] /\ SqL K H a (ns.map V.int) /\ ns.length <= 63 /\ ∀ H',Q (.bl true) H'
def Jn : Sp := fun vs H Q _ => ∃ (a : Addr) (ns : List Int) (kind most : Int),vs = [.int kind,.ref a,.int most] /\ SqL K H a (ns.map V.int) /\ ns.length <= 63 /\ 0 <= most /\ most <= 100 ∧
 ∀ (p : Addr) (us : List V) (H' : Hp) (xs : List (List Int)),H p = none -> Same H H' -> H' p = some (.lst us) -> Reps K H' us (xs.map tI) -> Dl xs -> (xs.length : Int) <= most -> Q (.ref p) H'
end
end Hb
namespace Hb
open PySem L2
def Dc (d : L2.D) : Bool := isD "int" d && !isD "bool" d
def Pu (d : L2.D) (b : Int) : Bool := match d with
 | .int i => decide (0 <= i) && decide (i < b)
 | _ => false
def levI (n : Nat) : Int := if (0 : Int) > (n : Int) - 1 then 0 else (n : Int) - 1
def Be (xs : List (List Int)) (d : L2.D) (l : Int) : Bool := match d with
 | .int i => decide (0 <= i) && decide (i < (xs.length : Int)) && decide (levI (xs.getD i.toNat []).length = l)
 | _ => false
def J1 (xs : List (List Int)) (p : List Int) (j i : Nat) : Bool := decide ((xs.getD (p.getD j 0).toNat []).getD i 0 = (xs.getD (p.getD i 0).toNat []).getD (j - 1) 0)
def Ek (xs : List (List Int)) (p : List Int) : Bool := (List.range p.length).all fun j => (List.range j).all fun i => J1 xs p j i
def toI : L2.D -> Int
 | .int i => i
 | _ => 0
def cntB (n : Nat) : Bool := n == 0 || n == 2 || n == 3 || n == 4
def En (xs : List (List Int)) (d : L2.D) : Bool := match d with
 | .tup ds => cntB ds.length && ds.all (fun e => Be xs e (levI ds.length - 1)) && (decide (levI ds.length < 2) || Ek xs (ds.map toI))
 | _ => false
theorem Cn (xs : List (List Int)) (ds : List L2.D) : En xs (.tup ds) = (cntB ds.length && ds.all (fun e => Be xs e (levI ds.length - 1)) && (decide (levI ds.length < 2) || Ek xs (ds.map toI))) := rfl
theorem Yt {n : Nat} (h : cntB n = true) : n <= 4 /\ n ≠ 1 := by
 unfold cntB at h
 simp only [Bool.or_eq_true,beq_iff_eq] at h
 omega
section
variable (K : W.Frag)
def Fr : Sp := fun vs H Q _ => ∃ (x : V) (d : L2.D),vs = [x] /\ Rep K H x d /\ Q (.bl (Dc d)) H
abbrev D7 : Sp := Fr K
def Br : Sp := fun vs H Q _ => ∃ (x : V) (d : L2.D) (b : Int),vs = [x,.int b] /\ Rep K H x d /\ Q (.bl (Pu d b)) H
def Bx : Sp := fun vs H Q _ => ∃ (x : V) (ds : List L2.D),vs = [x] /\ SeqD K H x ds /\ Q (.int (levI ds.length)) H
def Ck : Sp := fun vs H Q _ => ∃ (a : Addr) (x : V) (d : L2.D) (l : Int) (xs : List (List Int)),vs = [.ref a,x,.int l] /\ LT K H (.ref a) xs /\ Rep K H x d /\ Q (.bl (Be xs d l)) H
def Ew : Sp := fun vs H Q _ => ∃ (a : Addr) (v : V) (xs : List (List Int)) (p : List Int),vs = [.ref a,v] /\ LT K H (.ref a) xs /\ TI K H v p /\ p.length <= 4 ∧
 (∀ f ∈ p,0 <= f /\ f < (xs.length : Int) /\ (xs.getD f.toNat []).length + 1 = p.length) /\ Q (.bl (Ek xs p)) H
abbrev G6 : Sp := Zw K
abbrev D0 : Sp := Xd K
abbrev G5 : Sp := Zv K
abbrev Ed : Sp := Ss K
end
section
variable {K : W.Frag} {H : Hp}
theorem Rq {d : L2.D} (h : Dc d = true) : ∃ i,d = .int i := by
 cases d <;> simp [Dc,isD] at h
 exact ⟨_,rfl⟩
theorem LT.get {a : Addr} {xs : List (List Int)} {i : Int} (h : LT K H (.ref a) xs) (h0 : 0 <= i) (h1 : i < (xs.length : Int)) : ∃ us v,SqL K H a us /\ atI us i = some v /\ TI K H v (xs.getD i.toNat []) := by
 obtain ⟨a',us,e,hq,r⟩ := h
 cases e
 obtain ⟨j,rfl⟩ := Int.eq_ofNat_of_zero_le h0
 have hj : j < xs.length := by omega
 have e : (xs.map tI)[j]? = some (tI xs[j]) := by rw [List.getElem?_map,List.getElem?_eq_getElem hj]; rfl
 obtain ⟨v,hv,tv⟩ := r.get e
 refine ⟨us,v,hq,Cl hv,?_⟩
 rw [Int.toNat_natCast,List.getD_eq_getElem?_getD,List.getElem?_eq_getElem hj]
 exact tv
theorem LT.len {a : Addr} {xs : List (List Int)} (h : LT K H (.ref a) xs) : ∃ us,SqL K H a us /\ us.length = xs.length := by
 obtain ⟨a',us,e,hq,r⟩ := h
 cases e
 exact ⟨us,hq,by have := r.length; simpa using this⟩
theorem TI.get {v : V} {p : List Int} {i : Int} (h : TI K H v p) (h0 : 0 <= i) (h1 : i < (p.length : Int)) : ∃ a,v = .ref a /\ SqT K H a (p.map V.int) /\ atI (p.map V.int) i = some (.int (p.getD i.toNat 0)) := by
 obtain ⟨a,e,hq⟩ := h.sq
 refine ⟨a,e,hq,?_⟩
 obtain ⟨j,rfl⟩ := Int.eq_ofNat_of_zero_le h0
 have hj : j < p.length := by omega
 refine Cl ?_
 rw [List.getElem?_map,List.getElem?_eq_getElem hj]
 simp [hj]
theorem Bu (n : Nat) : levI n = ((n - 1 : Nat) : Int) := by unfold levI; split <;> omega
theorem Uw {xs : List (List Int)} {l : Int} : ∀ {ds : List L2.D},ds.all (fun e => Be xs e l) = true -> ds = nums (ds.map toI)
 | [],_ => rfl
 | d :: ds,h => by
   simp only [List.all_cons,Bool.and_eq_true] at h
   cases d with
   | int i =>
     show L2.D.int i :: ds = L2.D.int i :: nums (ds.map toI)
     rw [← Uw h.2]
   | _ => simp [Be] at h
end
end Hb
namespace L2
open PySem PySem.Spec PyProof.Rows
def Cv (X : Cx) (sc : Scope) (N' : List Str) (xc : Str) (C c : Addr) (s₀ : Shared) (H₀ : Hp) (fp : List Addr) : Cx where
 prog := X.prog
 w := X.w
 K := X.K
 mg := X.mg
 base := X.base
 A := X.A
 N := N'
 s₀ := s₀
 H₀ := H₀
 env := compEnvC sc ((xc,c) :: clOf X.env.cells sc.names []) C X.env
 outer := X.stack
 stack := X.stack
 ex := fp
 fn := fun x => x == xc
 calm := X.calm
 pn := []
 xe := fun _ _ => False
structure P6 (X : Cx) (sc : Scope) (N' : List Str) (cap : List (Option Nat)) (xc : Str) : Prop where
 kind : sc.kind = .function
 len : cap.length = N'.length
 one : ∀ n cl,cellsFrom n sc.names cl = (xc,n) :: cl
 push : ∀ h,pushCells h sc.names = h.push { cls := .type "cell",data := .cell none }
 own : ∀ x ∈ sc.names,x.2 = NameKind.cell -> x.1 = xc
 locals : ∀ x ∈ sc.names,x.2 = NameKind.local -> sc.names.lookup x.1 = some NameKind.local
 free : ∀ n,(n,NameKind.free) ∈ sc.names -> X.env.kindOf n = some .cell \/ X.env.kindOf n = some .free
 slots : ∀ (i j : Nat) (x : Str),N'[i]? = some x -> cap[i]? = some (some j) -> x ≠ xc /\ X.N[j]? = some x /\ ((relabel sc X.env).names.lookup x = some .cell \/ (relabel sc X.env).names.lookup x = some .free) /\ Vis X.env.scope x
def A10 (osc : Scope) (N : List Str) (sc : Scope) (N' : List Str) (cap : List (Option Nat)) (xc : Str) : Bool :=
 decide (sc.kind = .function) && decide (cap.length = N'.length) && sc.names.all (fun x => decide (x.2 = NameKind.cell -> x.1 = xc)) && sc.names.all (fun x => decide (x.2 = NameKind.local -> sc.names.lookup x.1 = some NameKind.local)) &&
 sc.names.all (fun x => decide (x.2 = NameKind.free -> (osc.names.lookup x.1 = some .cell \/ osc.names.lookup x.1 = some .free))) &&
 (N'.zip cap).all (fun p => match p.2 with
   | none => true
   | some j => decide (p.1 ≠ xc) && decide (N[j]? = some p.1) && decide (((sc.names.map fun (n,k) => if (k == .free && osc.kind == .function && osc.names.lookup n == some .cell) then (n,NameKind.cell) else (n,k)).lookup p.1 = some .cell) ∨
      ((sc.names.map fun (n,k) => if (k == .free && osc.kind == .function && osc.names.lookup n == some .cell) then (n,NameKind.cell) else (n,k)).lookup p.1 = some .free)) &&
     decide (osc.names.lookup p.1 = some .local \/ osc.names.lookup p.1 = some .cell \/ osc.names.lookup p.1 = some .free))
theorem As4 {X : Cx} {sc : Scope} {N' : List Str} {cap : List (Option Nat)} {xc : Str} (h : A10 X.env.scope X.N sc N' cap xc = true) (one : ∀ n cl,cellsFrom n sc.names cl = (xc,n) :: cl) (push : ∀ h,pushCells h sc.names = h.push { cls := .type "cell",data := .cell none }) : P6 X sc N' cap xc := by
 unfold A10 at h
 rw [Bool.and_eq_true,Bool.and_eq_true,Bool.and_eq_true,Bool.and_eq_true,Bool.and_eq_true,List.all_eq_true,List.all_eq_true,List.all_eq_true,List.all_eq_true] at h
 obtain ⟨⟨⟨⟨⟨h1,h2⟩,h3⟩,h4⟩,h5⟩,h6⟩ := h
 refine ⟨of_decide_eq_true h1,of_decide_eq_true h2,one,push,fun x hx => of_decide_eq_true (h3 x hx),fun x hx => of_decide_eq_true (h4 x hx),fun n hn => of_decide_eq_true (h5 _ hn) rfl,fun i j x e1 e2 => ?_⟩
 have hm : (x,some j) ∈ N'.zip cap := by
  have e : (N'.zip cap)[i]? = some (x,some j) := by
   rw [List.getElem?_zip_eq_some]
   exact ⟨e1,e2⟩
  exact List.mem_of_getElem? e
 have h7 := h6 _ hm
 dsimp only at h7
 rw [Bool.and_eq_true,Bool.and_eq_true,Bool.and_eq_true] at h7
 obtain ⟨⟨⟨h0,h8⟩,h9⟩,h10⟩ := h7
 exact ⟨of_decide_eq_true h0,of_decide_eq_true h8,of_decide_eq_true (p := (relabel sc X.env).names.lookup x = some .cell \/ (relabel sc X.env).names.lookup x = some .free) h9,of_decide_eq_true (p := X.env.scope.names.lookup x = some .local \/ X.env.scope.names.lookup x = some .cell \/ X.env.scope.names.lookup x = some .free) h10⟩
section
variable {X : Cx} {sc : Scope} {N' : List Str} {cap : List (Option Nat)} {xc : Str} {pins : List (Addr × Obj)} {σ : St} {H : Hp} {s : Shared} {C c : Addr} {fp : List Addr}
theorem P6.cells (o : P6 X sc N' cap xc) (ok : X.Ok) : ∀ n,(n,NameKind.free) ∈ sc.names -> ∃ c,X.env.cells.lookup n = some c := fun n hn => ok.has n (o.free n hn)
theorem Eo {env : Env} {x : Str} {k : NameKind} (hnc : ∀ x ∈ sc.names,x.2 = NameKind.cell -> x.1 = xc) (h : (relabel sc env).names.lookup x = some k) (hk : k = .cell \/ k = .free) : (x,NameKind.free) ∈ sc.names \/ x = xc := by
 have all : ∀ (l : List (Str × NameKind)),(∀ x ∈ l,x.2 = NameKind.cell -> x.1 = xc) -> (l.map fun (n,k) => if (k == NameKind.free && env.scope.kind == .function && env.kindOf n == some .cell) then (n,NameKind.cell) else (n,k)).lookup x = some k -> (x,NameKind.free) ∈ l \/ x = xc := by
  intro l
  induction l with
  | nil => intro _ h; exact nomatch h
  | cons p r ih =>
    intro hn h
    obtain ⟨n,q⟩ := p
    rw [List.map_cons,List.lookup_cons] at h
    have up : ((x,NameKind.free) ∈ r \/ x = xc) -> ((x,NameKind.free) ∈ (n,q) :: r \/ x = xc) := fun z => z.elim (fun z => .inl (List.mem_cons_of_mem _ z)) .inr
    by_cases hc : (q == NameKind.free && env.scope.kind == .function && env.kindOf n == some .cell) = true
    . have hq : q = NameKind.free := by
       have := hc
       simp only [Bool.and_eq_true] at this
       simpa using this.1.1
      simp only [hc,if_true] at h
      cases hx : x == n with
      | true =>
        have e : x = n := by simpa using hx
        rw [e,hq]
        exact .inl List.mem_cons_self
      | false =>
        rw [hx] at h
        exact up (ih (fun y hy => hn y (List.mem_cons_of_mem _ hy)) h)
    . simp only [hc] at h
      cases hx : x == n with
      | true =>
        have e : x = n := by simpa using hx
        simp only [Bool.false_eq_true,if_false,hx] at h
        have e2 : q = k := by simpa using h
        rcases hk with z | z
        . exact .inr (e.trans (hn (n,q) List.mem_cons_self (e2.trans z)))
        . rw [e,← z,← e2]
          exact .inl List.mem_cons_self
      | false =>
        simp only [Bool.false_eq_true,if_false,hx] at h
        exact up (ih (fun y hy => hn y (List.mem_cons_of_mem _ hy)) h)
 exact all sc.names hnc h
theorem X7 {cl : List (Str × Addr)} {x : Str} {a : Addr} (h : ((xc,c) :: cl).lookup x = some a) : (x = xc /\ a = c) \/ (x ≠ xc /\ cl.lookup x = some a) := by
 rw [List.lookup_cons] at h
 cases hx : x == xc with
 | true => rw [hx] at h; exact .inl ⟨by simpa using hx,(Option.some.inj h).symm⟩
 | false => rw [hx] at h; exact .inr ⟨by simpa using hx,h⟩
theorem As2 (o : P6 X sc N' cap xc) (I : Inv X pins σ H s) (hC : s.heap.objs.size <= C) (hc : s.heap.objs.size <= c) (hf : ∀ b ∈ fp,FpOk X pins H b) (hb : ∀ b ∈ fp,b < s.heap.objs.size) : (Cv X sc N' xc C c s H fp).Ok := by
 have ltc : ∀ x a,(clOf X.env.cells sc.names []).lookup x = some a -> X.env.cells.lookup x = some a := fun x a e => B2 (o.cells I.ok) (fun z => by simp at z) e
 have nc : ∀ x a,(clOf X.env.cells sc.names []).lookup x = some a -> a ≠ c := fun x a e z => by
  obtain ⟨v,ob,hob,_⟩ := I.cell x a (ltc x a e)
  exact absurd (Nat.lt_of_lt_of_le (Heap.lt_size hob) (z ▸ hc)) (Nat.lt_irrefl _)
 exact {
  mod := I.ok.mod
  kind := o.kind
  glob := I.ok.glob
  blt := I.ok.blt
  above := hC
  inj := fun x y a hx hy => by
   rcases X7 hx with ⟨rfl,rfl⟩ | ⟨n1,hx⟩ <;> rcases X7 hy with ⟨e2,e3⟩ | ⟨n2,hy⟩
   . exact e2.symm
   . exact absurd rfl (nc _ _ hy)
   . exact absurd e3 (nc _ _ hx)
   . exact I.ok.inj x y a (ltc x a hx) (ltc y a hy)
  has := fun x hx => by
   have hm : (x,NameKind.free) ∈ sc.names \/ x = xc := by
    rcases hx with hx | hx
    . exact Eo o.own hx (.inl rfl)
    . exact Eo o.own hx (.inr rfl)
   by_cases e : x = xc
   . exact ⟨c,by show ((xc,c) :: _).lookup x = _; rw [List.lookup_cons,e]; simp⟩
   . obtain ⟨a,ha⟩ := Kz (cells := X.env.cells) (l := sc.names) (acc := []) (x := x) (.inl (hm.resolve_right e))
     refine ⟨a,?_⟩
     show ((xc,c) :: _).lookup x = _
     rw [List.lookup_cons]
     have : (x == xc) = false := by simpa using e
     rw [this]
     exact ha
  cab := fun x a h e => by
   have hx : x = xc := by simpa [Cv] using h
   rcases X7 e with ⟨_,rfl⟩ | ⟨n1,_⟩
   . exact hc
   . exact absurd hx n1
  hd := I.ok.hd
  frames := I.ok.frames
  stk := .inl rfl
  exf := fun b hb' => ⟨Nat.ne_of_lt (Nat.lt_of_lt_of_le (hb b hb') hC),fun x a e => by
   rcases X7 e with ⟨_,rfl⟩ | ⟨_,e⟩
   . exact Nat.ne_of_gt (Nat.lt_of_lt_of_le (hb b hb') hc)
   . exact (hf b hb').2.2.2.2.1 x a (ltc x a e)⟩
  bs := I.bs
  bsz := Nat.le_trans I.ok.bsz I.sz
  noex := fun b ob e hb' => by
   rcases (hf b hb').2.2.2.1 with z | z
   . exact I.ok.noex b ob e z
   . exact absurd (Nat.lt_of_lt_of_le (Heap.lt_size e) (Nat.le_trans I.ok.bsz z)) (Nat.lt_irrefl _)
  exfs := fun b hb' z => by
   obtain ⟨_,f1,f2,_⟩ := hf b hb'
   rcases List.mem_cons.mp (I.stkSub b z) with e | e
   . exact f1 e
   . exact f2 e
  funs := I.stack
  frf := I.stkFree }
theorem Ak6 (o : P6 X sc N' cap xc) (I : Inv X pins σ H s) {D : Addr} {h1 : Heap} {t : Nat} (hD : D = s.heap.objs.size) (hC : C = s.heap.objs.size + 1) (hc : c = s.heap.objs.size + 2) (hf : ∀ b ∈ fp,FpOk X pins H b) (hb : ∀ b ∈ fp,b < s.heap.objs.size)
 (hn : h1.Ns C fun _ => none) (hcell : h1.IsCell c none) (hl : h1.get? D = some { cls := .type "list",data := .seq #[] 0 }) (k : ∀ b o,s.heap.get? b = some o -> h1.get? b = some o) :
 Inv (Cv X sc N' xc C c s H fp) [] (capS cap σ) (upd H D (.lst [])) { s with heap := h1,toks := t } := by
 have hCs : s.heap.objs.size <= C := by rw [hC]; exact Nat.le_add_right _ _
 have hcs : s.heap.objs.size <= c := by rw [hc]; exact Nat.le_add_right _ _
 have hCD : C ≠ D := by rw [hC,hD]; exact Nat.succ_ne_self _
 have hcD : c ≠ D := by rw [hc,hD]; exact Nat.ne_of_gt (Nat.lt_add_of_pos_right (by decide))
 have ok := As2 (C := C) (c := c) (fp := fp) o I hCs hcs hf hb
 have hDn : H D = none := by rw [hD]; exact I.fresh
 have ltc : ∀ x a,(clOf X.env.cells sc.names []).lookup x = some a -> X.env.cells.lookup x = some a := fun x a e => B2 (o.cells I.ok) (fun z => by simp at z) e
 have cel : ∀ a v,s.heap.IsCell a v -> h1.IsCell a v := fun a v ⟨ob,ho,hd⟩ => ⟨ob,k a ob ho,hd⟩
 have ltD : ∀ a v,s.heap.IsCell a v -> a ≠ D := fun a v ⟨ob,ho,hd⟩ => by rw [hD]; exact Nat.ne_of_lt (Heap.lt_size ho)
 refine ⟨ok,rfl,I.bare,Un.laid k (by rw [hD]; exact Nat.le_refl _) hDn,⟨_,hn,fun i x v e1 e2 e3 => ?_⟩,fun x a e => ?_,?_,fun x a e => ?_,fun p hp => absurd hp (by simp [Cv]),?_,?_⟩
 . have e2' : cap[i]?.map (fun o => o.bind fun j => (σ[j]?).join) = some (some v) := by
    have := e2
    unfold capS at this
    rw [List.getElem?_map] at this
    exact this
   cases hcp : cap[i]? with
   | none => rw [hcp] at e2'; cases e2'
   | some oo =>
     rw [hcp] at e2'
     cases oo with
     | none => cases e2'
     | some j =>
       have e4 : (σ[j]?).join = some v := by simpa using e2'
       obtain ⟨q0,q1,q2',q3⟩ := o.slots i j x e1 hcp
       have q2 : (x,NameKind.free) ∈ sc.names := (q2'.elim (fun z => Eo o.own z (.inl rfl)) fun z => Eo o.own z (.inr rfl)).resolve_right q0
       obtain ⟨m,hm,hl'⟩ := I.loc
       have e5 : σ[j]? = some (some v) := by
        cases z : σ[j]? with
        | none => rw [z] at e4; cases e4
        | some y => rw [z] at e4; cases y with
          | none => cases e4
          | some y' => cases e4; rfl
       obtain ⟨u,r,l⟩ := hl' j x v q1 e5 q3
       refine ⟨u,r,?_⟩
       obtain ⟨a,ha⟩ := Kz (cells := X.env.cells) (l := sc.names) (acc := []) (x := x) (.inl q2)
       have kd : X.env.kindOf x = some .cell \/ X.env.kindOf x = some .free := o.free x q2
       rcases l with ⟨hk,_⟩ | ⟨hk,a',ha',hcl⟩
       . rcases kd with z | z <;> rw [z] at hk <;> cases hk
       . have e6 : a' = a := by
          have := ltc x a ha
          rw [ha'] at this
          exact Option.some.inj this
         refine .inr ⟨q2',a,?_,?_⟩
         . show ((xc,c) :: _).lookup x = _
           rw [List.lookup_cons]
           have : (x == xc) = false := by simpa using q0
           rw [this]
           exact ha
         . rw [← e6]
           exact cel _ _ hcl
 . rcases X7 e with ⟨_,rfl⟩ | ⟨_,e⟩
   . exact ⟨none,hcell⟩
   . obtain ⟨v,z⟩ := I.cell x a (ltc x a e)
     exact ⟨v,cel a v z⟩
 . show upd H D (.lst []) C = none
   rw [Ae hCD]
   exact I.hok.fresh hCs
 . show upd H D (.lst []) a = none
   rcases X7 e with ⟨_,rfl⟩ | ⟨_,e⟩
   . rw [Ae hcD]
     exact I.hok.fresh hcs
   . obtain ⟨v,z⟩ := I.cell x a (ltc x a e)
     rw [Ae (ltD a v z)]
     exact I.freeC x a (ltc x a e)
 . exact I.hok.laid k (by rw [hD]; exact Nat.le_refl _) ⟨Nat.zero_le _,[],0,.nil,hl⟩
 . show (capS cap σ).length = N'.length
   unfold capS
   rw [List.length_map,o.len]
end
theorem newEnv_cell {M : Model} {A : Around} {E : Value -> Shared -> Prop} {s : Shared} {sc : Scope} {globals : Addr} {cl : List (Str × Addr)} {qual : Str} {env0 : Env} {xc : Str} {Q : Env -> Shared -> Prop}
 (one : ∀ n cl,cellsFrom n sc.names cl = (xc,n) :: cl) (push : ∀ h,pushCells h sc.names = h.push { cls := .type "cell",data := .cell none })
 (hQ : ∀ h',h'.Ns s.heap.objs.size (fun _ => none) -> h'.IsCell (s.heap.objs.size + 1) none -> (∀ b o,s.heap.get? b = some o -> h'.get? b = some o) →
   Q { scope := sc,locals := s.heap.objs.size,globals := globals,cells := (xc,s.heap.objs.size + 1) :: cl,qual := qual,func := none,code := env0.code,frame := env0.frame,builtins := env0.builtins } { s with heap := h' }) :
 wpAny M A (newFunctionEnv sc globals cl [] qual none .none (some env0)) Q E s := by
 unfold newFunctionEnv
 simp only [Option.isSome_some,if_true]
 refine wpAny_bind (wpAny_alloc ?_)
 refine wpAny_bind (wpAny_layCells _ (fun name kind cells => by cases hkc : kind == NameKind.cell <;> simp [hkc]) _ _ _ _ ?_)
 have hsz : ({ s with heap := s.heap.push { cls := .type "dict",data := .dict #[] } } : Shared).heap.objs.size = s.heap.objs.size + 1 := Heap.size_push ..
 rw [hsz,one,push]
 simp only [List.forIn_nil]
 refine wpAny_bind (wpAny_pure (wpAny_pure (hQ _ ?_ ?_ fun b o e => Heap.get?_push_of_some _ (Heap.get?_push_of_some _ e))))
 . exact (Heap.Ns.new s.heap (.type "dict")).keeps fun b o e => Heap.get?_push_of_some _ e
 . refine ⟨{ cls := .type "cell",data := .cell none },?_,rfl⟩
   have := Heap.get?_push_size (h := s.heap.push { cls := .type "dict",data := .dict #[] }) (o := { cls := .type "cell",data := .cell none }) rfl
   rw [Heap.size_push] at this
   exact this
section
variable {X : Cx} {sc : Scope} {N' : List Str} {cap : List (Option Nat)} {xc : Str} {tg elt iter : Expr} {ifs : List Expr} {pos : Pos} {g : TG} {tc : TT} {te : TE}
theorem Ys {pins : List (Addr × Obj)} {σ : St} {H : Hp} {s : Shared} {J : It} {fp : List Addr} {it : Addr} {tn : Nat -> Heap -> Prop} {RR : Value -> Addr -> Result -> Shared -> Prop} {Q : Addr -> Hp -> Prop} {E : Value -> Shared -> Prop}
 (o : P6 X sc N' cap xc) (hcm : X.calm = true) (hg : ∀ C c s₀ H₀ fp,PG (Cv X sc N' xc C c s₀ H₀ fp) tg g) (ht : ∀ C c s₀ H₀ fp,PTs (Cv X sc N' xc C c s₀ H₀ fp) ifs tc) (he : ∀ C c s₀ H₀ fp,PE (Cv X sc N' xc C c s₀ H₀ fp) elt te)
 (I : Inv X pins σ H s) (T : Turn X.prog X.w X.K tg J fp it tn) (st : tn 0 s.heap) (hf : ∀ b ∈ fp,FpOk X pins H b)
 (h : ∀ D,H D = none -> RunC J g tc te D (Q D) (capS cap σ) (upd H D (.lst [])))
 (hR : ∀ D C s' H' m',H D = none -> s.heap.objs.size <= C -> s'.os = s.os -> AllBare s'.gens -> Un (frs X.stack) fp H H' s.heap s'.heap -> HOk X.prog X.w H' s'.heap -> s'.heap.Ns C m' -> H' C = none -> C ∉ fp -> Q D H' -> RR (.ref D) C (.ok .next) s') :
 wpAny (model X.prog X.w) X.A (newList []) (fun acc s₃ => wpAny (model X.prog X.w) X.A (newFunctionEnv sc X.env.globals (clOf X.env.cells sc.names []) [] X.env.qual none .none (some X.env)) (fun cenv s₄ =>
  codeAny (model X.prog X.w) X.A (.compStart (.ListComp elt [⟨tg,iter,ifs,0⟩] sc pos) 0 (.ref it) acc { cenv with scope := relabel sc X.env }) (RR acc cenv.locals) s₄) E s₃) E s := by
 have hb : ∀ b ∈ fp,b < s.heap.objs.size := fun b hb => by
  obtain ⟨ob,e,_⟩ := T.obj _ _ st b hb
  exact Heap.lt_size e
 refine wpAny_newObj_type (newEnv_cell o.one o.push (fun h₁ hns₁ hcell₁ hk₁ => ?_))
 dsimp only at hns₁ hcell₁ hk₁ ⊢
 generalize hH2 : s.heap.push { cls := .type "list",dict := none,data := .seq ([] : List Value).toArray } = H2 at hns₁ hcell₁ hk₁ ⊢
 have hC : H2.objs.size = s.heap.objs.size + 1 := by rw [← hH2,Heap.size_push]
 have hCl : s.heap.objs.size <= H2.objs.size := by rw [hC]; exact Nat.le_succ _
 have hcl : s.heap.objs.size <= H2.objs.size + 1 := Nat.le_succ_of_le hCl
 have old : ∀ b ob,s.heap.get? b = some ob -> h₁.get? b = some ob := fun b ob e => hk₁ b ob (hH2 ▸ Heap.get?_push_of_some _ e)
 have hl : h₁.get? s.heap.objs.size = some { cls := .type "list",data := .seq #[] 0 } := hk₁ _ _ (hH2 ▸ Heap.get?_push_size _ rfl)
 have I4 : Inv (Cv X sc N' xc H2.objs.size (H2.objs.size + 1) s H fp) [] (capS cap σ) (upd H s.heap.objs.size (.lst [])) { s with heap := h₁ } := Ak6 (t := s.toks) o I rfl hC (by rw [hC]) hf hb hns₁ hcell₁ hl old
 have hfr : H s.heap.objs.size = none := I.fresh
 have f4 : ∀ b ∈ fp,FpOk (Cv X sc N' xc H2.objs.size (H2.objs.size + 1) s H fp) [] (upd H s.heap.objs.size (.lst [])) b := fun b hb' => by
  obtain ⟨f0,f1,f2,f3,f4,f5⟩ := hf b hb'
  have lb := hb b hb'
  refine ⟨by rw [Ae (Nat.ne_of_lt lb)]; exact f0,(Nat.ne_of_lt (Nat.lt_of_lt_of_le lb hCl) : b ≠ H2.objs.size),fun z => ?_,.inl hb',fun x a e => ?_,fun p hp => absurd hp (by simp [Cv])⟩
  . rcases List.mem_cons.mp (I.stkSub b z) with e | e
    . exact f1 e
    . exact f2 e
  . rcases X7 e with ⟨_,rfl⟩ | ⟨_,e⟩
    . exact Nat.ne_of_gt (Nat.lt_of_lt_of_le lb hcl)
    . exact f4 x a (B2 (o.cells I.ok) (fun z => by simp at z) e)
 have st4 : tn 0 h₁ := T.keep _ _ _ st fun b _ ob e => old b ob e
 have loop : ∀ s₅ : Shared,s₅ = { s with heap := h₁ } →
  codeAny (model X.prog X.w) X.A (.compLoop (.ListComp elt [⟨tg,iter,ifs,0⟩] sc pos) 0 (.ref it) (.ref s.heap.objs.size) (Cv X sc N' xc H2.objs.size (H2.objs.size + 1) s H fp).env) (RR (.ref s.heap.objs.size) H2.objs.size) s₅ := by
  rintro s₅ rfl
  refine Wd (Y := Cv X sc N' xc H2.objs.size (H2.objs.size + 1) s H fp) (J := J) (fp := fp) (tn := tn) (Q := Q s.heap.objs.size) rfl hcm (hg _ _ _ _ _) (ht _ _ _ _ _) (he _ _ _ _ _) T st4 f4 I4 (h _ hfr) fun τ' H' s' I' q' => ?_
  obtain ⟨m',hn',_⟩ := I'.loc
  exact hR _ _ s' H' m' hfr hCl I'.os I'.bare I'.base I'.hok hn' I'.free (fun z => absurd (Nat.lt_of_lt_of_le (hb _ z) hCl) (Nat.lt_irrefl _)) q'
 exact codeAny_compStart_list (loop _ rfl) (T.self _ 0 _ _ _ st4 (loop _ rfl))
theorem Ao0 {wi : TI} {i : Nat} {x : Str} {px spos : Pos} (hN : X.N.Nodup) (hi' : X.N[i]? = some x) (hx : Loc X.env.scope x) (hcm : X.calm = true) (hcap : A10 X.env.scope X.N sc N' cap xc = true) (one : ∀ n cl,cellsFrom n sc.names cl = (xc,n) :: cl) (push : ∀ h,pushCells h sc.names = h.push { cls := .type "cell",data := .cell none }) (hi : PI X tg iter wi)
 (hg : ∀ C c s₀ H₀ fp,PG (Cv X sc N' xc C c s₀ H₀ fp) tg g) (ht : ∀ C c s₀ H₀ fp,PTs (Cv X sc N' xc C c s₀ H₀ fp) ifs tc) (he : ∀ C c s₀ H₀ fp,PE (Cv X sc N' xc C c s₀ H₀ fp) elt te)
 (hsw : swapsWith (.ListComp elt [⟨tg,iter,ifs,0⟩] sc pos) (some (.Name x px)) spos.line X.env = pure true := by rfl)
 (hs : ∀ x,foldedSetIterable iter X.env x = pure x := by intro _; rfl) (hf : X.fn x = true \/ X.env.scope.names.lookup x = some .local := by first | exact .inl rfl | exact .inr rfl | assumption) :
 PS X (.Assign [.Name x px] (.ListComp elt [⟨tg,iter,ifs,0⟩] sc pos) spos) (tAsg (Av0 wi cap g tc te) (j8 i)) := by
 intro pins s σ H D I h
 have o : P6 X sc N' cap xc := As4 hcap one push
 rw [exec_Assign_Name_used _ _ _ _ hsw]
 refine wpAny_bind (wpAny_standAt (wpAny_bind ?_))
 show wpAny _ X.A (do let _ ← comprehension (.ListComp elt [⟨tg,iter,ifs,0⟩] sc pos) sc X.env _ (newList []) false (eval iter X.env) (some (assign (.Name x px) X.env))) _ _ s
 refine wpAny_bind (thn (wpAny_comprehension_free (use := some (assign (.Name x px) X.env)) (Q := fun _ s' => SP X pins D .next s') rfl hs (Mo (o.cells I.ok)) o.kind o.locals
  (thn (hi pins s σ H _ I h) fun v s1 h1 => thn h1 fun itv s2 h2 => ?_)) fun _ s' hq => wpAny_pure (wpAny_pure hq))
 obtain ⟨it,fp,tn,J,H2,e,I2,T,st2,f2,hW⟩ := h2
 subst e
 refine Ys (RR := fun acc C => compPost (model X.prog X.w) X.A X.xe (some (assign (.Name x px) X.env)) (fun _ s' => SP X pins D .next s') acc C) (Q := fun A H' => j8 i (.ref A) σ H' D.nx) o hcm hg ht he I2 T st2 f2 hW ?_
 intro A C s' H' m' hD hC hos hbare hun hok hn hHC hCf q
 have I3 : Inv X pins σ H' s' := I2.call' hos hun hok hbare (Inv.fpCh f2)
 have f3 : FpOk X pins H' C := I2.fpOk hC hHC
 obtain ⟨_,k1,_,k3,k4,k5⟩ := f3
 show wpAny _ X.A (assign (.Name x px) X.env (.ref A)) _ _ s'
 refine wpAny_assign_Name (Np I3 hN hi' hx (v := .ref A) rfl (fun s'' I'' ⟨a,hsb,ha⟩ => ?_) hf)
 have hCa : C ≠ a := by
  rcases ha with z | z
  . rw [z]; exact k1
  . exact fun z' => k4 x a z z'.symm
 refine ⟨m',hn.sameBut hsb hCa,fun h' hsb' => ?_⟩
 have I4 : Inv X pins (σ.set i (some (.ref A))) H' { s'' with heap := h' } := I''.turned (t' := s''.toks) (fun b ob hb e => (hsb'.2 b hb).trans e) hHC k1 k3 k4 k5
 exact ⟨_,H',I4,q⟩
end
end L2
namespace Hb
open PySem L2
section
variable {H H1 : Hp} {a : Addr} {ms : Ms} {k v : Int}
theorem Ai7 (rd : Rd H a (.dK (cK ms))) : DGet H a (.int k) ((A0 ms k).map V.int) := .inl ⟨cK ms,.inl k,rd,rfl,(K4 ms k).symm⟩
theorem Ug (rd : Rd H a (.dK (cK ms))) (h : A0 ms k = some v) : DGet H a (.int k) (some (.int v)) := .inl ⟨cK ms,.inl k,rd,rfl,by rw [K4,h]; rfl⟩
theorem Uf (h : H a = some (.dK (cK ms))) (hl : ms.length <= 1000000) : DPut H a (.int k) (.int v) (upd H a (.dK (cK (putI ms k v)))) := by
 rw [← A79]
 exact .inl ⟨cK ms,.inl k,h,rfl,by unfold cK; rw [List.length_map]; exact Cq hl,rfl⟩
theorem Sa {i : Nat} {kk : Key} {x : V} (h : (cK ms)[i]? = some (kk,x)) : ∃ p : Int × Int,ms[i]? = some p /\ kk = .inl p.1 /\ x = .int p.2 := by
 unfold cK at h
 rw [List.getElem?_map] at h
 cases e : ms[i]? with
 | none => rw [e] at h; cases h
 | some p =>
   rw [e] at h
   have := Option.some.inj h
   simp only [Prod.mk.injEq] at this
   exact ⟨p,rfl,this.1.symm,this.2.symm⟩
theorem Ji : (cK ms).length = ms.length := by unfold cK; rw [List.length_map]
theorem As6 {o : HO} (h : H a = some o) : upd H a o = H := by
 funext b
 by_cases e : b = a
 . rw [e,Ab,h]
 . rw [Ae e]
theorem T8 {x : HO} {D : Addr} (h : (upd H a x) D = none) : H D = none /\ D ≠ a := by
 have n : D ≠ a := fun z => by rw [z,Ab] at h; cases h
 rw [Ae n] at h
 exact ⟨h,n⟩
end
def newC (H : Hp) (ms : Ms) (Q : V -> Hp -> Prop) : Prop := ∀ (D : Addr) (H' : Hp),H D = none -> Same H H' -> H' D = some (.dK (cK ms)) -> Q (.ref D) H'
section
variable (K : W.Frag)
def Gz (_K : W.Frag) : Sp := fun vs H Q _ => ∃ (a : Addr) (ms : Ms) (k n : Int),vs = [.ref a,.int k,.int n] /\ H a = some (.dK (cK ms)) /\ ms.length <= 1000000 /\ Q .non (upd H a (.dK (cK (addI ms k n))))
def Xb (_K : W.Frag) : Sp := fun vs H Q _ => ∃ (a b : Addr) (ms ns : Ms),vs = [.ref a,.ref b] /\ Rd H a (.dK (cK ms)) /\ H b = some (.dK (cK ns)) /\ ms.length <= 1000 /\ ns.length <= 1000 /\ newC H (Dg ms ns) Q
def Su (_K : W.Frag) : Sp := fun vs H Q _ => ∃ (n : Int) (a : Addr) (ms : Ms),vs = [.int n,.ref a] /\ H a = some (.dK (cK ms)) /\ ms.length <= 1000 /\ (∀ p ∈ ms,IntMulOk n p.2) /\ newC H (A7 n ms) Q
end
end Hb
namespace Hb
open PySem L2
def modI (p : Int) (ms : Ms) : Ms := (ms.filter fun q => decide (q.2 % p ≠ 0)).map fun q => (q.1,q.2 % p)
def Az (ms : Ms) : List Int := ms.map (·.1)
theorem Aq3 {p : Int} {ms : Ms} {x : Int} (h : x ∈ Az (modI p ms)) : x ∈ Az ms := by
 unfold Az modI at h
 rw [List.map_map] at h
 obtain ⟨q,hq,rfl⟩ := List.mem_map.mp h
 exact List.mem_map.mpr ⟨q,(List.mem_filter.mp hq).1,rfl⟩
theorem At5 {p : Int} {ms : Ms} (h : nd ms) : nd (modI p ms) := by
 unfold nd modI
 rw [List.map_map]
 exact (List.filter_sublist.map _).nodup h
theorem G9 {p : Int} : ∀ {ms : Ms},nd ms -> ∀ k,getI (modI p ms) k = getI ms k % p
 | [],_,k => by simp [modI,getI,A0]
 | q :: ms,h,k => by
   have h2 : nd ms := (List.nodup_cons.mp h).2
   have h1 : q.1 ∉ ms.map (·.1) := (List.nodup_cons.mp h).1
   have ih := G9 (p := p) h2 k
   rw [Hm]
   unfold modI at ih ⊢
   by_cases hq : q.2 % p ≠ 0
   . rw [List.filter_cons_of_pos (by simpa using hq),List.map_cons,Hm]
     by_cases hk : q.1 = k
     . rw [if_pos hk,if_pos hk]
     . rw [if_neg hk,if_neg hk]; exact ih
   . rw [List.filter_cons_of_neg (by simpa using hq),ih]
     by_cases hk : q.1 = k
     . rw [if_pos hk,← hk,B7 h1]
       have : q.2 % p = 0 := by simpa using hq
       rw [this]; simp
     . rw [if_neg hk]
structure OkM (p : Int) (ms : Ms) : Prop where
 nd : nd ms
 bd : ∀ q ∈ ms,0 < q.2 /\ q.2 < p
theorem OkM.nz {p : Int} {ms : Ms} (h : OkM p ms) : nz ms := fun q hq => by have := (h.bd q hq).1; omega
theorem Zd {p : Int} {ms : Ms} (h : nd ms) (hp : 0 < p) : OkM p (modI p ms) := by
 refine ⟨At5 h,fun q hq => ?_⟩
 obtain ⟨r,hr,rfl⟩ := List.mem_map.mp hq
 have h1 : r.2 % p ≠ 0 := by simpa using (List.mem_filter.mp hr).2
 have h2 := Int.emod_nonneg r.2 (show p ≠ 0 by omega)
 have h3 := Int.emod_lt_of_pos r.2 hp
 exact ⟨by omega,h3⟩
theorem Ae9 (p : Int) (ms : Ms) : (modI p ms).length <= ms.length := by
 unfold modI
 rw [List.length_map]
 exact List.length_filter_le ..
theorem O1 {ms : Ms} (h : nz ms) {k : Int} : getI ms k ≠ 0 ↔ k ∈ Az ms := by
 constructor
 . intro hk
   by_cases hm : k ∈ ms.map (·.1)
   . exact hm
   . exact absurd (B7 hm) hk
 . intro hk hz
   have e := Aq5 h k
   rw [if_pos hz] at e
   obtain ⟨q,hq,rfl⟩ := List.mem_map.mp hk
   unfold A0 at e
   cases hf : ms.find? (fun p => decide (p.1 = q.1)) with
   | none => exact absurd (List.find?_eq_none.mp hf q hq) (by simp)
   | some r => rw [hf] at e; simp at e
theorem Hl (n : Int) : ∀ (ms : Ms) (k : Int),getI (A7 n ms) k = n * getI ms k := fun ms k => by
 unfold A7
 by_cases hn : n = 0
 . rw [if_pos hn,hn]; simp [getI,A0]
 . rw [if_neg hn]
   induction ms with
   | nil => simp [getI,A0]
   | cons q ms ih =>
     rw [List.map_cons,Hm,Hm,ih]
     split <;> rfl
structure Top (ms : Ms) (b : Int) : Prop where
 mem : b ∈ Az ms
 le : ∀ x ∈ Az ms,x <= b
theorem Top.one {ms : Ms} {b c : Int} (h1 : Top ms b) (h2 : Top ms c) : b = c := by
 have := h1.le c h2.mem
 have := h2.le b h1.mem
 omega
theorem Xj {p f b : Int} {es fs : Ms} (hp : 0 < p) (he : OkM p es) (hf : OkM p fs) (te : Top es b) (tf : Top fs b) (hinv : p ∣ 1 - f * getI fs b) :
 OkM p (modI p (Dg es (A7 (-(getI es b) * f) fs))) /\ ∀ x ∈ Az (modI p (Dg es (A7 (-(getI es b) * f) fs))),x < b /\ (x ∈ Az es \/ x ∈ Az fs) := by
 have ndt : nd (A7 (-(getI es b) * f) fs) := by
  unfold A7
  split
  . exact List.nodup_nil
  . exact Id hf.nd _
 obtain ⟨n1,n2,n3,n4⟩ := Js (A7 (-(getI es b) * f) fs) es he.nd he.nz ndt
 have gt : ∀ k,getI (A7 (-(getI es b) * f) fs) k = (-(getI es b) * f) * getI fs k := fun k => Hl _ fs k
 have ok := Zd n1 hp
 refine ⟨ok,fun x hx => ?_⟩
 have hx0 := (O1 ok.nz).mpr hx
 rw [G9 n1,n4,gt] at hx0
 have hin : x ∈ Az es \/ x ∈ Az fs := by
  by_cases h1 : x ∈ Az es
  . exact .inl h1
  by_cases h2 : x ∈ Az fs
  . exact .inr h2
  . rw [B7 h1,B7 h2] at hx0
    simp at hx0
 refine ⟨?_,hin⟩
 have hle : x <= b := by
  rcases hin with h | h
  . exact te.le x h
  . exact tf.le x h
 have hne : x ≠ b := fun z => by
  rw [z] at hx0
  apply hx0
  obtain ⟨d,hd⟩ := hinv
  have : getI es b + -getI es b * f * getI fs b = p * (getI es b * d) := by
   have e : getI es b + -getI es b * f * getI fs b = getI es b * (1 - f * getI fs b) := by grind
   rw [e,hd]; grind
  rw [this]
  exact Int.mul_emod_right _ _
 omega
end Hb
namespace L2
open PySem PySem.Spec PyProof.Rows PySem.W
section
variable {X : Cx} {J : XJ} {j k : Nat} {C : Addr} {ps : List Str} {sp : Sp} {m : Str} {pos apos : Pos} {e o : Expr} {es : List Expr} {ta : TE} {t : TA}
end
end L2
namespace L2
open PySem PySem.Spec PyProof.Rows PySem.SeqAt
section
variable {X : Cx}
section
variable {o e : Expr} {es : List Expr} {to : TE} {t : TA} {name : Str} {apos cpos : Pos} {id : String} {r : V -> List V -> Hp -> VK -> Prop}
end
end
end L2
namespace L2
open PySem PySem.Spec PyProof.Rows
def Az4 : Expr -> Option Int
 | .Constant (.int i) _ _ => some i
 | _ => none
def Vz : List Expr -> Option (List Int)
 | [] => some []
 | e :: es => match Az4 e,Vz es with
   | some i,some is => some (i :: is)
   | _,_ => none
def A19 (ns : List Int) : TA := fun _ H Q => Q (ns.map V.int) H
theorem Ab9 {X : Cx} : ∀ {es : List Expr} {ns : List Int},Vz es = some ns -> PA X es (A19 ns)
 | [],ns,h => by
   cases h
   exact Ad
 | e :: es,ns,h => by
   unfold Vz at h
   cases e1 : Az4 e with
   | none => rw [e1] at h; cases h
   | some i =>
     cases e2 : Vz es with
     | none => rw [e1,e2] at h; cases h
     | some is =>
       rw [e1,e2] at h
       cases h
       unfold Az4 at e1
       split at e1
       case h_2 => cases e1
       case h_1 =>
        cases e1
        exact Aa Ah (Ab9 e2)
end L2
namespace L2
open PySem PySem.Spec PyProof.Rows
structure PAw (X : Cx) (es : List Expr) (t : TA) : Prop where
 h : PA X es t
theorem Ap1 {X : Cx} {es : List Expr} {ns : List Int} (h : Vz es = some ns) : PAw X es (A19 ns) := ⟨Ab9 h⟩
end L2
namespace Hb
open PySem L2
def Yy (xs : List (List Int)) : Prop := ∀ x ∈ xs,x.length = 0 \/ x.length = 2 \/ x.length = 3 \/ x.length = 4
theorem Ct {α : Type} {l : List α} {i : Nat} {d : α} (h : i < l.length) : l.getD i d ∈ l := by
 rw [List.getD_eq_getElem?_getD,List.getElem?_eq_getElem h]
 exact List.getElem_mem h
theorem Yy.at {xs : List (List Int)} (h : Yy xs) {f : Int} (h0 : 0 <= f) (h1 : f < (xs.length : Int)) : (xs.getD f.toNat []).length = 0 \/ (xs.getD f.toNat []).length = 2 \/ (xs.getD f.toNat []).length = 3 \/ (xs.getD f.toNat []).length = 4 := h _ (Ct (by omega))
section
variable (K : W.Frag)
def Ka (_K : W.Frag) : Sp := fun vs H Q _ => ∃ (c j m : Int),vs = [.int c,.int j,.int m] /\ 0 < m /\ ∀ (r : Int) (H' : Hp),Same H H' -> 0 <= r -> r < m -> Q (.int r) H'
def Nv : Sp := fun vs H Q _ => ∃ (a : Addr) (xs : List (List Int)) (c : Int),vs = [.ref a,.int c] /\ LT K H (.ref a) xs /\ xs.length <= 1000 /\ ∀ (w : V) (p : List Int) (H' : Hp),Same H H' -> TI K H' w p -> Q w H'
def Nw : Sp := fun vs H Q _ => ∃ (a : Addr) (xs : List (List Int)) (c : Int),vs = [.ref a,.int c] /\ LT K H (.ref a) xs /\ Yy xs /\ xs.length <= 1000 /\ ∀ (w : V) (p : List Int) (H' : Hp),Same H H' -> TI K H' w p -> Q w H'
end
end Hb
namespace Hb
open PySem L2
theorem M3 {sp : List Int} {x : Int} (h0 : 0 <= x) (h1 : x < (sp.length : Int)) : atI (sp.map V.int) x = some (.int (sp.getD x.toNat 0)) := by
 obtain ⟨j,rfl⟩ := Int.eq_ofNat_of_zero_le h0
 have hj : j < sp.length := by omega
 rw [Int.toNat_natCast]
 exact Cl (by rw [List.getElem?_map,List.getElem?_eq_getElem hj,List.getD_eq_getElem?_getD,List.getElem?_eq_getElem hj]; rfl)
end Hb
namespace Hb
end Hb
namespace Hb
open PySem L2
theorem X5 {α : Type} {l : List α} {i : Nat} {d : α} : l.getD i d ∈ l \/ l.getD i d = d := by
 rw [List.getD_eq_getElem?_getD]
 by_cases h : i < l.length
 . rw [List.getElem?_eq_getElem h]
   exact .inl (List.getElem_mem h)
 . rw [List.getElem?_eq_none (by omega)]
   exact .inr rfl
section
variable {K : W.Frag} {H : Hp}
end
section
variable (K : W.Frag)
end
end Hb
namespace L2
open PySem PySem.Spec PyProof.Rows
abbrev TJ := St -> Hp -> (Hp -> Prop) -> Prop
section
variable {X : Cx} {e v₁ v₂ : Expr} {es rest : List Expr} {te : TE} {tj : TJ} {pos : Pos}
end
end L2
namespace Hb
open PySem L2
section
variable (K : W.Frag)
end
end Hb
namespace L2
open PySem PySem.Spec PyProof.Rows PySem.SeqAt
section
variable {X : Cx} {n : Nat} {K : W.Frag}
end
end L2
namespace L2
open PySem PySem.Spec PyProof.Rows
section
variable {prog : Program} {w : World} {A : Around} {E : Value -> Shared -> Prop} {s : Shared}
theorem Eg {j t : Addr} {n : Nat} {vs : Array Value} {x : Value} {Q : Value -> Shared -> Prop} (g : s.heap.IsTupleIter j t n) (gt : s.heap.IsTuple t vs) (gx : vs[n]? = some x)
 (k : ∀ h',h'.IsTupleIter j t (n + 1) -> Heap.SameBut j s.heap h' -> Q x { s with heap := h' }) : wpAny (model prog w) A (Builtin.SmallTypes.nextOf (.ref j)) Q E s := by
 obtain ⟨o,q1,q2,q3⟩ := id g
 obtain ⟨p,p1,_,m,p2⟩ := gt
 unfold Builtin.SmallTypes.nextOf; refine wpAny_bind (wpAny_callSpecial?_slot (name := Str.ofString "__next__") g.typeIs F.slot_tuple_iterator_next (wpAny_call_entry F.slot_tuple_iterator_next g.typeIs F.entry_tuple_iterator_next ?_ (F.args_tuple_iterator_next_1 _)))
 show wpAny _ _ (field (.ref j) 0 >>= _) _ _ s; refine wpAny_bind (wpAny_field q1 q3 (x := .ref t) rfl ?_)
 show wpAny _ _ (if (Value.ref t == Value.none) = true then _ else _) _ _ s; rw [if_neg (show ¬ ((Value.ref t == Value.none) = true) from Bool.false_ne_true)]
 show wpAny _ _ (field (.ref j) 1 >>= _) _ _ s; refine wpAny_bind (wpAny_field q1 q3 (x := .int n 0) rfl ?_)
 show wpAny _ _ (seqItems? (.ref t) >>= _) _ _ s; refine wpAny_bind (wpAny_seqItems p1 p2 ?_)
 simp only [Int.toNat_natCast,gx]
 refine wpAny_bind (wpAny_setField q1 q3 (by simp) (wpAny_pure ⟨x,rfl,wpAny_pure (k _ ?_ (Heap.SameBut.update ..))⟩))
 exact ⟨_,Heap.get?_update_self _ q1 (Obj.isFreed_of_fields (Obj.data_mapFields q3 _)),(Obj.cls_mapFields ..).trans q2,by rw [Obj.data_mapFields q3]; simp [rawInt]⟩
theorem I0 {j t : Addr} {n : Nat} {vs : Array Value} {Q : Value -> Shared -> Prop} (hn : A.handled = none) (g : s.heap.IsTupleIter j t n) (gt : s.heap.IsTuple t vs) (gx : vs[n]? = none)
 (k : ∀ h' e,Heap.ExtBut j s.heap h' -> (∃ o,h'.get? e = some o /\ o.cls = .type "StopIteration") -> E (.ref e) { s with heap := h' }) : wpAny (model prog w) A (Builtin.SmallTypes.nextOf (.ref j)) Q E s := by
 obtain ⟨o,q1,q2,q3⟩ := id g
 obtain ⟨p,p1,_,m,p2⟩ := gt
 unfold Builtin.SmallTypes.nextOf; refine wpAny_bind (wpAny_callSpecial?_slot (name := Str.ofString "__next__") g.typeIs F.slot_tuple_iterator_next (wpAny_call_entry F.slot_tuple_iterator_next g.typeIs F.entry_tuple_iterator_next ?_ (F.args_tuple_iterator_next_1 _)))
 show wpAny _ _ (field (.ref j) 0 >>= _) _ _ s; refine wpAny_bind (wpAny_field q1 q3 (x := .ref t) rfl ?_)
 show wpAny _ _ (if (Value.ref t == Value.none) = true then _ else _) _ _ s; rw [if_neg (show ¬ ((Value.ref t == Value.none) = true) from Bool.false_ne_true)]
 show wpAny _ _ (field (.ref j) 1 >>= _) _ _ s; refine wpAny_bind (wpAny_field q1 q3 (x := .int n 0) rfl ?_)
 show wpAny _ _ (seqItems? (.ref t) >>= _) _ _ s; refine wpAny_bind (wpAny_seqItems p1 p2 ?_)
 simp only [Int.toNat_natCast,gx]
 refine wpAny_bind (wpAny_rule (wpAny_bind (wpAny_setField q1 q3 (by simp) ?_)))
 show wpAny _ _ (newExc (.type "StopIteration") [] >>= _) _ _ _; refine wpAny_bind ?_
 simp only [newExc,newTuple]; refine wpAny_bind (wpAny_newObj_type ?_ (by size_fits))
 refine wpAny_bind (m := firstArgMember _ _) (wpAny_of_eq (a := Value.none) (by first | rfl | (simp only [firstArgMember]; rfl)) ?_); refine wpAny_newObj_type ?_ (by size_fits)
 simp only [raiseNew]; refine wpAny_bind (wpAny_handled ?_)
 first | rw [show A.in1.handled = none from hn] | rw [hn]
 refine wpAny_bind (wpAny_pure (wpAny_throw ?_)); exact k _ _ (((Heap.SameBut.update ..).extBut.push _).push _) ⟨_,Heap.get?_push_size _ rfl,rfl⟩
theorem u7 {z a b i1 i2 t1 t2 : Addr} {n m : Nat} {xs ys : Array Value} {x y u v : Value} {Q : Value -> Shared -> Prop} (D : ZipApart z a b i1 i2 t1 t2) (gz : IsZip s.heap z a b .none) (ga : IsPair s.heap a (.ref i1) (.ref i2)) (gb : IsPair s.heap b u v)
 (g1 : s.heap.IsTupleIter i1 t1 n) (g2 : s.heap.IsTupleIter i2 t2 m) (e1 : s.heap.IsTuple t1 xs) (e2 : s.heap.IsTuple t2 ys) (gx : xs[n]? = some x) (gy : ys[m]? = some y)
 (k : ∀ h',IsZip h' z a b (rawInt s.heap.objs.size) -> IsPair h' b x y -> h'.IsTupleIter i1 t1 (n + 1) -> h'.IsTupleIter i2 t2 (m + 1) -> IsPair h' s.heap.objs.size x y -> h'.objs.size = s.heap.objs.size + 1 →
   (∀ c o,c ≠ z -> c ≠ b -> c ≠ i1 -> c ≠ i2 -> s.heap.get? c = some o -> h'.get? c = some o) -> Q (.ref s.heap.objs.size) { s with heap := h' }) :
 wpAny (model prog w) A (Builtin.«zip.__next__» ⟨[.ref z],[]⟩) (fun fin s' => ∃ r,fin = .done (.ret r) /\ Q r s') E s := by
 show wpAny _ _ (field (.ref z) 2 >>= _) _ _ _; refine wpAny_bind (wpAny_field gz rfl (x := .bool false) rfl ?_)
 show wpAny _ _ (field (.ref z) 3 >>= _) _ _ _; refine wpAny_bind (wpAny_field gz rfl (x := .ref a) rfl ?_)
 refine wpAny_bind (wpAny_seqItems ga rfl ?_)
 show wpAny _ _ (Builtin.SmallTypes.ownedTupleIsFree (.ref z) >>= _) _ _ _; refine wpAny_bind ?_; unfold Builtin.SmallTypes.ownedTupleIsFree
 refine wpAny_bind (wpAny_field gz rfl (x := .none) rfl (wpAny_pure ?_)); simp only [if_true]
 refine wpAny_bind (wpAny_rule ?_); refine wpAny_bind (wpAny_field gz rfl (x := .ref b) rfl ?_)
 refine wpAny_bind (wpAny_setField_rec gz (by simp) fun k1 gz1 w1 => ?_)
 replace gz1 : IsZip k1 z a b .ellipsis := gz1
 refine wpAny_bind ?_; simp only [List.zipIdx_cons,List.zipIdx_nil,List.forIn_cons,List.forIn_nil]
 refine wpAny_bind (wpAny_bind (wpAny_onRaise ?_)); show wpAny _ _ (Builtin.SmallTypes.nextOf (.ref i1) >>= _) _ _ _
 refine wpAny_bind (Eg (g1.extBut w1.extBut D.i1z) (e1.extBut w1.extBut D.l1z) gx fun k2 f1 w2 => wpAny_pure ?_)
 have gb2 : IsPair k2 b u v := w2.extBut _ _ D.TOi1 (w1.extBut _ _ D.TOz gb)
 refine wpAny_bind (wpAny_seqItems gb2 rfl ?_); refine wpAny_bind (wpAny_updateSeq_pair gb2 fun k3 gb3 w3 => ?_)
 replace gb3 : IsPair k3 b x v := gb3
 refine wpAny_bind (wpAny_letGo (wpAny_pure ?_)); refine wpAny_bind (wpAny_bind (wpAny_onRaise ?_)); show wpAny _ _ (Builtin.SmallTypes.nextOf (.ref i2) >>= _) _ _ _
 refine wpAny_bind (Eg (((g2.extBut w1.extBut D.i2z).extBut w2.extBut D.i12.symm).extBut w3.extBut D.TOi2.symm) (((e2.extBut w1.extBut D.l2z).extBut w2.extBut D.l2i1).extBut w3.extBut D.l2TO) gy fun k4 f2 w4 => wpAny_pure ?_)
 have gb4 : IsPair k4 b x v := w4.extBut _ _ D.TOi2 gb3
 refine wpAny_bind (wpAny_seqItems gb4 rfl ?_); refine wpAny_bind (wpAny_updateSeq_pair gb4 fun k5 gb5 w5 => ?_)
 replace gb5 : IsPair k5 b x y := gb5
 refine wpAny_bind (wpAny_letGo (wpAny_pure (wpAny_pure ?_))); refine wpAny_bind (wpAny_seqItems gb5 rfl ?_); refine wpAny_bind (wpAny_newTuple ?_)
 have sz : k5.objs.size = s.heap.objs.size := by rw [w5.1,w4.1,w3.1,w2.1,w1.1]
 have gz5 : IsZip k5 z a b .ellipsis := w5.extBut _ _ D.TOz.symm (w4.extBut _ _ D.i2z.symm (w3.extBut _ _ D.TOz.symm (w2.extBut _ _ D.i1z.symm gz1)))
 have kp : ∀ c o,c ≠ z -> c ≠ b -> c ≠ i1 -> c ≠ i2 -> s.heap.get? c = some o -> k5.get? c = some o := fun c o c1 c2 c3 c4 e => w5.extBut _ _ c2 (w4.extBut _ _ c4 (w3.extBut _ _ c2 (w2.extBut _ _ c3 (w1.extBut _ _ c1 e))))
 have f15 : k5.IsTupleIter i1 t1 (n + 1) := ((f1.extBut w3.extBut D.TOi1.symm).extBut w4.extBut D.i12).extBut w5.extBut D.TOi1.symm
 have f25 : k5.IsTupleIter i2 t2 (m + 1) := f2.extBut w5.extBut D.TOi2.symm
 have lz : z < k5.objs.size := Heap.lt_size gz5
 show wpAny _ _ (Builtin.SmallTypes.ownedTupleHandOut (.ref z) (.ref k5.objs.size) >>= _) _ _ _; refine wpAny_bind ?_; unfold Builtin.SmallTypes.ownedTupleHandOut
 have gz6 : IsZip (k5.push { cls := .type "tuple",data := .seq #[x,y] }) z a b .ellipsis := Heap.get?_push_of_some _ gz5
 refine wpAny_bind (wpAny_setField_rec gz6 (by simp) fun k7 gz7 w7 => ?_)
 replace gz7 : IsZip k7 z a b (rawInt k5.objs.size) := gz7
 refine wpAny_setField_rec gz7 (by simp) fun k8 gz8 w8 => ?_
 replace gz8 : IsZip k8 z a b (rawInt k5.objs.size) := gz8
 have up : ∀ c o,c ≠ z -> k5.get? c = some o -> k8.get? c = some o := fun c o c1 e => w8.extBut _ _ c1 (w7.extBut _ _ c1 (Heap.get?_push_of_some _ e))
 have gt : IsPair k8 k5.objs.size x y := w8.extBut _ _ (Nat.ne_of_gt lz) (w7.extBut _ _ (Nat.ne_of_gt lz) (Heap.get?_push_size _ rfl))
 have s8 : k8.objs.size = k5.objs.size + 1 := by rw [w8.1,w7.1,Heap.size_push]
 rw [sz] at gz8 gt s8
 refine wpAny_pure ⟨_,rfl,?_⟩; show Q (.ref k5.objs.size) _; rw [sz]
 exact k k8 gz8 (up _ _ D.TOz gb5) (f15.at fun o e => up _ o D.i1z e) (f25.at fun o e => up _ o D.i2z e) gt s8 fun c o c1 c2 c3 c4 e => up c o c1 (kp c o c1 c2 c3 c4 e)
theorem An2 {z a b i1 i2 t1 t2 : Addr} {n m : Nat} {xs ys : Array Value} {u v : Value} {Q : PySem.Fin -> Shared -> Prop} (hn : A.handled = none) (D : ZipApart z a b i1 i2 t1 t2) (gz : IsZip s.heap z a b .none) (ga : IsPair s.heap a (.ref i1) (.ref i2)) (gb : IsPair s.heap b u v)
 (g1 : s.heap.IsTupleIter i1 t1 n) (g2 : s.heap.IsTupleIter i2 t2 m) (e1 : s.heap.IsTuple t1 xs) (e2 : s.heap.IsTuple t2 ys) (gx : xs[n]? = none)
 (k : ∀ h' e,(∀ c o,c ≠ z -> c ≠ b -> c ≠ i1 -> c ≠ i2 -> s.heap.get? c = some o -> h'.get? c = some o) -> (∃ o,h'.get? e = some o /\ o.cls = .type "StopIteration") -> E (.ref e) { s with heap := h' }) :
 wpAny (model prog w) A (Builtin.«zip.__next__» ⟨[.ref z],[]⟩) Q E s := by
 show wpAny _ _ (field (.ref z) 2 >>= _) _ _ _; refine wpAny_bind (wpAny_field gz rfl (x := .bool false) rfl ?_)
 show wpAny _ _ (field (.ref z) 3 >>= _) _ _ _; refine wpAny_bind (wpAny_field gz rfl (x := .ref a) rfl ?_)
 refine wpAny_bind (wpAny_seqItems ga rfl ?_)
 show wpAny _ _ (Builtin.SmallTypes.ownedTupleIsFree (.ref z) >>= _) _ _ _; refine wpAny_bind ?_; unfold Builtin.SmallTypes.ownedTupleIsFree
 refine wpAny_bind (wpAny_field gz rfl (x := .none) rfl (wpAny_pure ?_)); simp only [if_true]
 refine wpAny_bind (wpAny_rule ?_); refine wpAny_bind (wpAny_field gz rfl (x := .ref b) rfl ?_)
 refine wpAny_bind (wpAny_setField_rec gz (by simp) fun k1 gz1 w1 => ?_)
 replace gz1 : IsZip k1 z a b .ellipsis := gz1
 refine wpAny_bind ?_; simp only [List.zipIdx_cons,List.zipIdx_nil,List.forIn_cons,List.forIn_nil]
 refine wpAny_bind (wpAny_bind (wpAny_onRaise ?_)); show wpAny _ _ (Builtin.SmallTypes.nextOf (.ref i1) >>= _) _ _ _
 refine wpAny_bind (I0 hn (g1.extBut w1.extBut D.i1z) (e1.extBut w1.extBut D.l1z) gx fun k2 e w2 he => ?_)
 obtain ⟨oe,ge,ce⟩ := he
 have gz2 : IsZip k2 z a b .ellipsis := w2 _ _ D.i1z.symm gz1
 have ne : e ≠ z := fun q => by subst q; rw [gz2] at ge; cases ge; simp at ce
 refine wpAny_setField_rec gz2 (by simp) fun k3 _ w3 => k k3 e (fun c o c1 _ c3 _ q => w3.extBut _ _ c1 (w2 _ _ c3 (w1.extBut _ _ c1 q))) ⟨oe,w3.extBut _ _ ne ge,ce⟩
theorem Q2 {z a b i1 i2 t1 t2 : Addr} {n m : Nat} {xs ys : Array Value} {x y u v : Value} {Q : Option Value -> Shared -> Prop} (D : ZipApart z a b i1 i2 t1 t2) (gz : IsZip s.heap z a b .none) (ga : IsPair s.heap a (.ref i1) (.ref i2)) (gb : IsPair s.heap b u v)
 (g1 : s.heap.IsTupleIter i1 t1 n) (g2 : s.heap.IsTupleIter i2 t2 m) (e1 : s.heap.IsTuple t1 xs) (e2 : s.heap.IsTuple t2 ys) (gx : xs[n]? = some x) (gy : ys[m]? = some y)
 (k : ∀ h',IsZip h' z a b (rawInt s.heap.objs.size) -> IsPair h' b x y -> h'.IsTupleIter i1 t1 (n + 1) -> h'.IsTupleIter i2 t2 (m + 1) -> IsPair h' s.heap.objs.size x y -> h'.objs.size = s.heap.objs.size + 1 →
   (∀ c o,c ≠ z -> c ≠ b -> c ≠ i1 -> c ≠ i2 -> s.heap.get? c = some o -> h'.get? c = some o) -> Q (some (.ref s.heap.objs.size)) { s with heap := h' }) : wpAny (model prog w) A (pyNext (.ref z)) Q E s := by
 have ht : s.TypeIs (.ref z) "zip" := ⟨_,gz,rfl⟩
 unfold pyNext
 exact wpAny_bind (wpAny_attempt (wpAny_callSpecial?_slot (name := Str.ofString "__next__") ht F.slot_zip_next (wpAny_call_entry F.slot_zip_next ht F.entry_zip_next (u7 D gz ga gb g1 g2 e1 e2 gx gy fun h' a1 a2 a3 a4 a5 a6 a7 => wpAny_pure (k h' a1 a2 a3 a4 a5 a6 a7)) (F.args_zip_next_1 _))))
theorem Tu {z a b i1 i2 t1 t2 : Addr} {n m : Nat} {xs ys : Array Value} {u v : Value} {Q : Option Value -> Shared -> Prop} (hn : A.handled = none) (D : ZipApart z a b i1 i2 t1 t2) (gz : IsZip s.heap z a b .none) (ga : IsPair s.heap a (.ref i1) (.ref i2)) (gb : IsPair s.heap b u v)
 (g1 : s.heap.IsTupleIter i1 t1 n) (g2 : s.heap.IsTupleIter i2 t2 m) (e1 : s.heap.IsTuple t1 xs) (e2 : s.heap.IsTuple t2 ys) (gx : xs[n]? = none)
 (k : ∀ h',(∀ c o,c ≠ z -> c ≠ b -> c ≠ i1 -> c ≠ i2 -> s.heap.get? c = some o -> h'.get? c = some o) -> Q none { s with heap := h' }) : wpAny (model prog w) A (pyNext (.ref z)) Q E s := by
 have ht : s.TypeIs (.ref z) "zip" := ⟨_,gz,rfl⟩
 unfold pyNext
 refine wpAny_bind (wpAny_attempt (wpAny_callSpecial?_slot (name := Str.ofString "__next__") ht F.slot_zip_next (wpAny_call_entry F.slot_zip_next ht F.entry_zip_next (An2 hn D gz ga gb g1 g2 e1 e2 gx fun h' e kp he => ?_) (F.args_zip_next_1 _))))
 obtain ⟨o,q1,q2⟩ := he
 exact wpAny_bind (wpAny_isInstance (T := "StopIteration") (b := true) ⟨o,q1,q2⟩ isSubtype_stop (wpAny_pure (k _ kp)))
end
abbrev zt1 (h : Heap) (a : Addr) : Heap := h.push { cls := .type "tuple_iterator",data := .fields #[.ref a,.int 0 0] }
abbrev zt2 (h : Heap) (a b : Addr) : Heap := (zt1 h a).push { cls := .type "tuple_iterator",data := .fields #[.ref b,.int 0 0] }
abbrev zt3 (h : Heap) (a b : Addr) : Heap := (zt2 h a b).push { cls := .type "tuple",data := .seq #[.ref h.objs.size,.ref (zt1 h a).objs.size] }
abbrev zt4 (h : Heap) (a b : Addr) : Heap := (zt3 h a b).push { cls := .type "tuple",data := .seq #[.none,.none] }
abbrev zt5 (h : Heap) (a b : Addr) : Heap := (zt4 h a b).push { cls := .type "zip",data := .fields #[.none,.bool false,.bool false,.ref (zt2 h a b).objs.size,.ref (zt3 h a b).objs.size] }
theorem An1 (a b : Addr) (xs ys : Array Value) : Meets (Builtin.«zip.__new__» ⟨[.type "zip",.ref a,.ref b],[]⟩) (fun _ R s => s.heap.IsTuple a xs /\ s.heap.IsTuple b ys /\ R (.ok (.ret (.ref (zt4 s.heap a b).objs.size))) { s with heap := zt5 s.heap a b }) :=
 .of_wp fun prog w A R s h => by
  obtain ⟨hp,g,d,tk,os⟩ := s; obtain ⟨h1,h2,h⟩ := h
  have hsub := sub_zip
  have g1 : Heap.IsTuple (Shared.heap ⟨hp,g,d,tk,os⟩) a xs := h1
  have g2 : Heap.IsTuple (Shared.heap ⟨hp.push { cls := .type "tuple_iterator",data := .fields #[.ref a,.int 0 0] },g,d,tk,os⟩) b ys := Heap.IsTuple.push h2 _
  wp_walk using wpAny_pyIter_tuple g1,wpAny_pyIter_tuple g2
  exact ⟨_,rfl,h⟩
section
variable {prog : Program} {w : World} {A : Around} {E : Value -> Shared -> Prop} {s : Shared}
theorem Al3 {a b : Addr} {xs ys : Array Value} {Q : Value -> Shared -> Prop} (h1 : s.heap.IsTuple a xs) (h2 : s.heap.IsTuple b ys)
 (k : ∀ h',IsZip h' (s.heap.objs.size + 4) (s.heap.objs.size + 2) (s.heap.objs.size + 3) .none -> IsPair h' (s.heap.objs.size + 2) (.ref s.heap.objs.size) (.ref (s.heap.objs.size + 1)) →
   IsPair h' (s.heap.objs.size + 3) .none .none -> h'.IsTupleIter s.heap.objs.size a 0 -> h'.IsTupleIter (s.heap.objs.size + 1) b 0 -> h'.objs.size = s.heap.objs.size + 5 →
   (∀ c o,s.heap.get? c = some o -> h'.get? c = some o) -> Q (.ref (s.heap.objs.size + 4)) { s with heap := h' }) : wpAny (model prog w) A (call (.type "zip") [.ref a,.ref b]) Q E s := by
 refine callType_new F.called_zip (by decide) (F.typeCall_zip_2 _ _) (F.newCall_zip_2 _ _) (fun obj => F.args_object_init_3 obj _ _) F.entry_zip_new (An1 a b xs ys) ⟨h1,h2,?_⟩
 have z1 : (zt1 s.heap a).objs.size = s.heap.objs.size + 1 := Heap.size_push ..
 have z2 : (zt2 s.heap a b).objs.size = s.heap.objs.size + 2 := by rw [Heap.size_push,z1]
 have z3 : (zt3 s.heap a b).objs.size = s.heap.objs.size + 3 := by rw [Heap.size_push,z2]
 have z4 : (zt4 s.heap a b).objs.size = s.heap.objs.size + 4 := by rw [Heap.size_push,z3]
 have z5 : (zt5 s.heap a b).objs.size = s.heap.objs.size + 5 := by rw [Heap.size_push,z4]
 have q5 : (zt5 s.heap a b).get? (zt4 s.heap a b).objs.size = some _ := Heap.get?_push_size _ rfl
 have q4 : (zt5 s.heap a b).get? (zt3 s.heap a b).objs.size = some _ := Heap.get?_push_of_some _ (Heap.get?_push_size _ rfl)
 have q3 : (zt5 s.heap a b).get? (zt2 s.heap a b).objs.size = some _ := Heap.get?_push_of_some _ (Heap.get?_push_of_some _ (Heap.get?_push_size _ rfl))
 have q2 : (zt5 s.heap a b).get? (zt1 s.heap a).objs.size = some _ := Heap.get?_push_of_some _ (Heap.get?_push_of_some _ (Heap.get?_push_of_some _ (Heap.get?_push_size _ rfl)))
 have q1 : (zt5 s.heap a b).get? s.heap.objs.size = some _ := Heap.get?_push_of_some _ (Heap.get?_push_of_some _ (Heap.get?_push_of_some _ (Heap.get?_push_of_some _ (Heap.get?_push_size _ rfl))))
 show _ /\ _
 rw [z2,z3,z4] at q5
 rw [z1,z2] at q3
 rw [z3] at q4
 rw [z1] at q2
 rw [z4]
 exact ⟨⟨_,q5,rfl⟩,k _ q5 q3 q4 ⟨_,q1,rfl,rfl⟩ ⟨_,q2,rfl,rfl⟩ z5 fun c o x => Heap.get?_push_of_some _ (Heap.get?_push_of_some _ (Heap.get?_push_of_some _ (Heap.get?_push_of_some _ (Heap.get?_push_of_some _ x))))⟩
end
def Ityp (K : W.Frag) (a b : Addr) : It :=
 ⟨fun i H => ∃ xs ys x y,SqT K H a xs /\ SqT K H b ys /\ xs[i]? = some x /\ ys[i]? = some y,
  fun i H v H' => ∃ p x y,H p = none /\ v = .ref p /\ H' = upd H p (.tup [x,y]) /\ (∀ xs,SqT K H a xs -> xs[i]? = some x) /\ ∀ ys,SqT K H b ys -> ys[i]? = some y,
  fun i H => ∃ xs ys,SqT K H a xs /\ SqT K H b ys /\ xs.length <= i⟩
theorem v4 {P : Program} {w : World} {K : W.Frag} {es : List Expr} {x1 : Nat} {tpos : Pos} (a b z TI TO i1 i2 : Addr) (D : ZipApart z TI TO i1 i2 a b) :
 Turn P w K (.Tuple es x1 tpos) (Ityp K a b) [z,TI,TO,i1,i2] z (fun i h => IsZip h z TI TO .none /\ IsPair h TI (.ref i1) (.ref i2) /\ (∃ c d,IsPair h TO c d) /\ h.IsTupleIter i1 a i /\ h.IsTupleIter i2 b i) where
 mem := by simp
 obj := fun i h st c hc => by
  obtain ⟨hz,hTI,⟨u,v,hTO⟩,⟨o1,h1,c1,d1⟩,⟨o2,h2,c2,d2⟩⟩ := st
  simp only [List.mem_cons,List.not_mem_nil,or_false] at hc
  rcases hc with rfl | rfl | rfl | rfl | rfl
  . exact ⟨_,hz,fun v q => by cases (show Data.fields _ = Data.cell v from q)⟩
  . exact ⟨_,hTI,fun v q => by cases (show Data.seq _ _ = Data.cell v from q)⟩
  . exact ⟨_,hTO,fun v q => by cases (show Data.seq _ _ = Data.cell v from q)⟩
  . exact ⟨o1,h1,fun v q => by rw [d1] at q; cases q⟩
  . exact ⟨o2,h2,fun v q => by rw [d2] at q; cases q⟩
 keep := fun i h h' st k => by
  obtain ⟨hz,hTI,⟨u,v,hTO⟩,h1,h2⟩ := st
  exact ⟨k z (by simp) _ hz,k TI (by simp) _ hTI,⟨u,v,k TO (by simp) _ hTO⟩,h1.at fun o q => k i1 (by simp) o q,h2.at fun o q => k i2 (by simp) o q⟩
 item := by
  intro X hP hw hK hc i pins s σ H E I hf st hg
  subst hP hw hK
  obtain ⟨hz,hTI,⟨u0,v0,hTO⟩,h1,h2⟩ := st
  obtain ⟨xs,ys,x,y,hqa,hqb,hx,hy⟩ := hg
  obtain ⟨ia,ra,pa,_⟩ := I.tuple hqa
  obtain ⟨ib,rb,pb,_⟩ := I.tuple hqb
  obtain ⟨u,hu,ru⟩ := ra.get hx
  obtain ⟨v,hv,rv⟩ := rb.get hy
  have hfresh : H s.heap.objs.size = none := I.hok.fresh (Nat.le_refl _)
  have ltz := Heap.lt_size hz
  refine Q2 D hz hTI hTO h1 h2 (show s.heap.IsTuple a ia.toArray from pa) (show s.heap.IsTuple b ib.toArray from pb) (x := u) (y := v) (by simpa using hu) (by simpa using hv) fun h' hz' hTO' h1' h2' htup hsz hk => ?_
  refine ⟨_,rfl,wpAny_letOwnedTupleGo_zip hz' fun h3 hz3 hsb => ?_⟩
  replace hsb : Heap.SameBut z h' h3 := hsb
  have kk : ∀ c o,c ∉ [z,TI,TO,i1,i2] -> s.heap.get? c = some o -> h3.get? c = some o := fun c o hc e => by
   simp only [List.mem_cons,List.not_mem_nil,or_false,not_or] at hc
   obtain ⟨n1,n2,n3,n4,n5⟩ := hc
   exact (hsb.2 c n1).trans (hk c o n1 n3 n4 n5 e)
  have ht3 : h3.get? s.heap.objs.size = some { cls := .type "tuple",data := .seq #[u,v] } := (hsb.2 _ (Nat.ne_of_gt ltz)).trans htup
  have hi1 : h3.IsTupleIter i1 a (i + 1) := h1'.at fun o e => (hsb.2 i1 D.i1z).trans e
  have hi2 : h3.IsTupleIter i2 b (i + 1) := h2'.at fun o e => (hsb.2 i2 D.i2z).trans e
  have hTI3 : IsPair h3 TI (.ref i1) (.ref i2) := (hsb.2 TI D.TIz).trans (hk _ _ D.TIz D.TITO D.TIi1 D.TIi2 hTI)
  have hTO3 : IsPair h3 TO u v := (hsb.2 TO D.TOz).trans hTO'
  have ntr : ∀ c o,H c = some o -> c ∉ [z,TI,TO,i1,i2] := fun c o e hm => by rw [(hf c hm).1] at e; cases e
  have nsz : ∀ c o,H c = some o -> c ≠ s.heap.objs.size := fun c o e => Ak e hfresh
  refine ⟨.ref s.heap.objs.size,upd H s.heap.objs.size (.tup [x,y]),?_,rfl,⟨s.heap.objs.size,x,y,hfresh,rfl,rfl,fun zs q => by rw [I.tuple_inj q hqa]; exact hx,fun zs q => by rw [I.tuple_inj q hqb]; exact hy⟩,⟨hz3,hTI3,⟨_,_,hTO3⟩,hi1,hi2⟩,fun c hc => ?_⟩
  . refine Inv.step (s := s) (h' := h3) (t' := s.toks) (H' := upd H s.heap.objs.size (.tup [x,y])) I (g' := s.gens) (d' := s.drawn) (ch := [z,TI,TO,i1,i2]) (fun c hc => ?_) (fun c o _ _ hc e _ => kk c o hc e) (fun c o _ _ hc e _ => ⟨o.slots,kk c o hc e⟩) (fun c o hc e n => ?_) (fun c o hc e => ⟨o,kk c o hc e⟩)
     (fun c zs e => by rw [Ae (nsz c _ e)]; exact e) (fun c o w' e => by rw [Ae (nsz c _ e)]; exact e) (fun c ps e => ⟨#[],by rw [Ae (nsz c _ e),e]; simp⟩) (fun m hm => ?_) (fun c w' e => ?_) I.bare
    . have f := hf c hc
      exact ⟨f.2.2.2.1,f.2.1,f.2.2.2.2.1,f.2.2.2.2.2⟩
    . rw [Ae (Nat.ne_of_lt (Heap.lt_size e))]
      exact n
    . obtain ⟨o,es',ep,ho,r⟩ := hm
      exact ⟨o,es',ep,kk _ o (fun q => (hf _ q).2.1 rfl) ho,r⟩
    . by_cases hcs : c = s.heap.objs.size
      . subst hcs
        rw [Ab] at e
        cases e
        exact ⟨(by show (2 : Nat) <= sizeLine; decide),[u,v],.cons ru (.cons rv .nil),⟨_,ht3,rfl,rfl,_,rfl⟩⟩
      . rw [Ae hcs] at e
        refine (I.hok c w' e).stay (fun c' y' hc' q => ?_) (fun c' q => by rw [Ae (nsz c' _ q)]; exact q) fun c' zs q => by rw [Ae (nsz c' _ q)]; exact q
        rcases hc' with rfl | hc'
        . exact kk _ _ (ntr _ _ e) q
        . exact kk _ _ (ntr _ _ hc') q
  . have lb : c < s.heap.objs.size := by
     simp only [List.mem_cons,List.not_mem_nil,or_false] at hc
     obtain ⟨o1,q1,_⟩ := h1
     obtain ⟨o2,q2,_⟩ := h2
     rcases hc with rfl | rfl | rfl | rfl | rfl
     . exact ltz
     . exact Heap.lt_size hTI
     . exact Heap.lt_size hTO
     . exact Heap.lt_size q1
     . exact Heap.lt_size q2
    rw [Ae (Nat.ne_of_lt lb)]
    exact (hf c hc).1
 done := by
  intro X hP hw hK hc i pins s σ H E I hf st hg
  subst hP hw hK
  obtain ⟨hz,hTI,⟨u0,v0,hTO⟩,h1,h2⟩ := st
  obtain ⟨xs,ys,hqa,hqb,hx⟩ := hg
  obtain ⟨ia,ra,pa,_⟩ := I.tuple hqa
  obtain ⟨ib,rb,pb,_⟩ := I.tuple hqb
  have la := ra.length
  have lb := rb.length
  refine Tu (I.ok.hd hc) D hz hTI hTO h1 h2 (show s.heap.IsTuple a ia.toArray from pa) (show s.heap.IsTuple b ib.toArray from pb) ?_ fun h' hk => ⟨rfl,I.turnedN (t' := s.toks) (fp := [z,TI,TO,i1,i2]) (fun c o hc e => ?_) hf⟩
  . simp; omega
  . simp only [List.mem_cons,List.not_mem_nil,or_false,not_or] at hc
    obtain ⟨n1,n2,n3,n4,n5⟩ := hc
    exact hk c o n1 n3 n4 n5 e
 self := fun _ _ _ _ _ st h => wpAny_pyIter_zip st.1 h
def Ba2 (K : W.Frag) (ta : TA) : TI := fun σ H R => ta σ H fun vs H1 => ∃ a b,vs = [.ref a,.ref b] /\ (∃ xs,SqT K H1 a xs) /\ (∃ ys,SqT K H1 b ys) /\ R (Ityp K a b) H1
theorem p9 : bootBuiltins "zip" = some (.type "zip") := by decide +kernel
theorem Aw5 {X : Cx} {K : W.Frag} {es : List Expr} {x1 : Nat} {tpos : Pos} {a b : Expr} {ta : TA} {p pos : Pos} (hg : Gl X "zip") (hm : X.mg "zip" = none) (ha : PA X [a,b] ta) (hK : X.K = K := by rfl) (hs : starEach [a,b] X.env = [(false,eval a X.env),(false,eval b X.env)] := by rfl) (hs2 : starEach [b] X.env = [(false,eval b X.env)] := by rfl) :
 PI X (.Tuple es x1 tpos) (.Call (.Name "zip" p) [a,b] [] pos) (Ba2 K ta) := by
 subst hK
 intro pins s σ H R I h
 refine Call_ (Jc I hg hm p9 (PyProof.Rows.callWith_type1 (thn (ha pos pins s σ H _ I h) fun us s1 ⟨vs,H1,I1,r1,q1⟩ => ?_) (by rw [hs,hs2]) (by rw [hs2]; rfl)))
 obtain ⟨la,lb,e,⟨xs,hqa⟩,⟨ys,hqb⟩,q⟩ := q1
 subst e
 cases r1 with
 | cons ra rr =>
   cases rr with
   | cons rb rr =>
     cases rr
     cases ra
     cases rb
     obtain ⟨ia,_,pa,_⟩ := I1.tuple hqa
     obtain ⟨ib,_,pb,_⟩ := I1.tuple hqb
     have a1 : la < s1.heap.objs.size := by obtain ⟨_,e,_⟩ := pa; exact Heap.lt_size e
     have a2 : lb < s1.heap.objs.size := by obtain ⟨_,e,_⟩ := pb; exact Heap.lt_size e
     refine Al3 (show s1.heap.IsTuple la ia.toArray from pa) (show s1.heap.IsTuple lb ib.toArray from pb) fun h' hz hTI hTO hi1 hi2 hsz hk => ?_
     refine wpAny_pyIter_zip hz ⟨s1.heap.objs.size + 4,[s1.heap.objs.size + 4,s1.heap.objs.size + 2,s1.heap.objs.size + 3,s1.heap.objs.size,s1.heap.objs.size + 1],_,_,H1,rfl,I1.kept (t' := s1.toks) hk,v4 la lb _ _ _ _ _ (zipApart_new a1 a2),⟨hz,hTI,⟨_,_,hTO⟩,hi1,hi2⟩,fun c hc => ?_,q⟩
     have lc : s1.heap.objs.size <= c := by
      simp only [List.mem_cons,List.not_mem_nil,or_false] at hc
      rcases hc with rfl | rfl | rfl | rfl | rfl
      . exact Nat.le_add_right _ _
      . exact Nat.le_add_right _ _
      . exact Nat.le_add_right _ _
      . exact Nat.le_refl _
      . exact Nat.le_add_right _ _
     exact I1.fpOk lc (I1.hok.fresh lc)
section
variable {g : TG} {tc : TT} {te : TE} {D : Addr} {Q : Hp -> Prop} {τ : St} {H : Hp}
theorem Ak5 {K : W.Frag} {a b : Addr} {xs ys : List V} {n : Nat} (hn : xs.length = n /\ ys.length = n) (Pv : Nat -> List V -> St -> Hp -> Prop) (h0 : Pv 0 [] τ H) (hl : ∀ i zs τ H,i <= n -> Pv i zs τ H -> SqT K H a xs /\ SqT K H b ys)
 (hs : ∀ i x y zs τ H p,xs[i]? = some x -> ys[i]? = some y -> Pv i zs τ H -> H p = none -> g (.ref p) τ (upd H p (.tup [x,y])) fun τ2 H2 => tc τ2 H2 fun b H3 => if b = true then te τ2 H3 fun y H4 => H4 D = some (.lst zs) /\ zs.length < sizeLine /\ Pv (i + 1) (zs ++ [y]) τ2 (upd H4 D (.lst (zs ++ [y]))) else Pv (i + 1) zs τ2 H3)
 (hd : ∀ zs τ H,Pv n zs τ H -> Q H) : RunC (Ityp K a b) g tc te D Q τ H := by
 refine ⟨fun i m zs τ H => m = n - i /\ i <= n /\ Pv i zs τ H,⟨n,by simp,Nat.zero_le _,h0⟩,?_⟩
 rintro i m zs τ H ⟨rfl,hi,pp⟩
 obtain ⟨qa,qb⟩ := hl i zs τ H hi pp
 by_cases hlt : i < n
 . refine .inr ⟨⟨xs,ys,xs[i],ys[i],qa,qb,by simp <;> omega,by simp <;> omega⟩,Pv (i + 1),fun ys' τ' H' p' => ⟨n - (i + 1),by omega,rfl,hlt,p'⟩,fun x H' y => ?_⟩
   obtain ⟨p,u,v,hp,rfl,rfl,y1,y2⟩ := y
   exact hs i u v zs τ _ p (y1 xs qa) (y2 ys qb) pp hp
 . have e : i = n := by omega
   subst e
   exact .inl ⟨⟨xs,ys,qa,qb,by omega⟩,hd zs τ H pp⟩
end
end L2
namespace L2
open PySem PySem.Spec PyProof.Rows
open AutoSeq1 (wpAny_loadPart')
theorem Ai4 (t : Addr) (vs : Array Value) (n : Nat) (dd : Option Addr) (sl : Array (Option Value)) : Meets (Builtin.«enumerate.__new__» ⟨[.type "enumerate",.ref t],[]⟩) (fun _ R s => s.heap.get? t = some { cls := .type "tuple",dict := dd,data := .seq vs n,slots := sl } ∧
 R (.ok (.ret (.ref (zt1 s.heap t).objs.size))) { s with heap := (zt1 s.heap t).push { cls := .type "enumerate",data := .fields #[.none,.bool false,.ref s.heap.objs.size,rawInt 0,.none,.none] } }) :=
 .of_wp fun prog w A R s h => by
  obtain ⟨hp,g,d,tk,os⟩ := s; obtain ⟨q1,q2⟩ := h
  have hsub := sub_enumerate
  have gt : Heap.IsTuple (Shared.heap ⟨hp,g,d,tk,os⟩) t vs := ⟨_,q1,rfl,n,rfl⟩
  wp_walk using wpAny_loadPart' q1
  refine wpAny_stack_any fun st => wpAny_pure ?_
  split
  . rename_i c _ _ _ _ _
    cases (c == Value.type "enumerate")
    . wp_walk using wpAny_loadPart' q1,wpAny_pyIter_tuple gt
      exact ⟨_,rfl,q2⟩
    . wp_walk using wpAny_loadPart' q1,wpAny_pyIter_tuple gt
      exact ⟨_,rfl,q2⟩
  . wp_walk using wpAny_loadPart' q1,wpAny_pyIter_tuple gt
    exact ⟨_,rfl,q2⟩
section
variable {prog : Program} {w : World} {A : Around} {E : Value -> Shared -> Prop} {s : Shared}
theorem l6 {e j t : Addr} {n : Nat} {vs : Array Value} {x old : Value} {Q : Value -> Shared -> Prop} (ge : IsEnum s.heap e j n old) (gj : s.heap.IsTupleIter j t n) (gt : s.heap.IsTuple t vs) (gx : vs[n]? = some x) (ne : e ≠ j)
 (k : ∀ h',IsEnumOut h' e j ((n : Int) + 1) x s.heap.objs.size -> h'.IsTupleIter j t (n + 1) -> h'.get? s.heap.objs.size = some { cls := .type "tuple",data := .seq #[.int n s.toks,x] } -> h'.objs.size = s.heap.objs.size + 1 →
   (∀ b o,b ≠ e -> b ≠ j -> s.heap.get? b = some o -> h'.get? b = some o) -> Q (.ref s.heap.objs.size) { s with heap := h',toks := s.toks + 1 }) :
 wpAny (model prog w) A (Builtin.«enumerate.__next__» ⟨[.ref e],[]⟩) (fun fin s' => ∃ r,fin = .done (.ret r) /\ Q r s') E s := by
 obtain ⟨hp,g,d,tk,os⟩ := s
 show wpAny _ _ (field (.ref e) 2 >>= _) _ _ _; refine wpAny_bind (wpAny_field ge rfl (x := .ref j) rfl ?_)
 refine wpAny_bind (Eg gj gt gx fun k1 gj1 w1 => ?_)
 replace w1 : Heap.SameBut j hp k1 := w1
 have ge1 : IsEnum k1 e j n old := (w1.2 e ne).trans ge
 show wpAny _ _ (field (.ref e) 3 >>= _) _ _ ⟨k1,g,d,tk,os⟩; refine wpAny_bind (wpAny_field ge1 rfl (x := rawInt n) rfl ?_)
 show wpAny _ _ (field (.ref e) 4 >>= _) _ _ ⟨k1,g,d,tk,os⟩; refine wpAny_bind (wpAny_field ge1 rfl (x := .none) rfl ?_)
 show wpAny _ _ (mkInt n >>= _) _ _ ⟨k1,g,d,tk,os⟩; refine wpAny_bind (wpAny_mkInt ?_)
 show wpAny _ _ (setField (.ref e) 3 (rawInt ((n : Int) + 1)) >>= _) _ _ ⟨k1,g,d,tk + 1,os⟩
 refine wpAny_bind (wpAny_setField_rec ge1 (by simp) fun k2 ge2 w2 => ?_)
 replace w2 : Heap.SameBut e k1 k2 := w2
 replace ge2 : IsEnum k2 e j ((n : Int) + 1) old := ge2
 show wpAny _ _ (setField (.ref e) 4 .none >>= _) _ _ ⟨k2,g,d,tk + 1,os⟩; refine wpAny_bind (wpAny_setField_rec ge2 (by simp) fun k3 ge3 w3 => ?_)
 replace w3 : Heap.SameBut e k2 k3 := w3
 replace ge3 : IsEnum k3 e j ((n : Int) + 1) old := ge3
 show wpAny _ _ (newTuple [.int n tk,x] >>= _) _ _ ⟨k3,g,d,tk + 1,os⟩; refine wpAny_bind (wpAny_newTuple ?_)
 have ge4 : IsEnum (k3.push { cls := .type "tuple",data := .seq #[.int n tk,x] }) e j ((n : Int) + 1) old := Heap.get?_push_of_some _ ge3
 generalize hk4 : k3.push { cls := .type "tuple",data := .seq #[.int n tk,x] } = k4 at ge4
 have sz : k3.objs.size = hp.objs.size := by rw [w3.1,w2.1,w1.1]
 have le : e < hp.objs.size := Heap.lt_size ge
 have gt4 : k4.get? hp.objs.size = some { cls := .type "tuple",data := .seq #[.int n tk,x] } := by rw [← hk4,← sz]; exact Heap.get?_push_size _ rfl
 have sz4 : k4.objs.size = hp.objs.size + 1 := by rw [← hk4,Heap.size_push,sz]
 have kp4 : ∀ b o,b ≠ e -> b ≠ j -> hp.get? b = some o -> k4.get? b = some o := fun b o n1 n2 q => by
  rw [← hk4]; exact Heap.get?_push_of_some _ (w3.extBut b o n1 (w2.extBut b o n1 (w1.extBut b o n2 q)))
 have gj4 : k4.IsTupleIter j t (n + 1) := by
  rw [← hk4]; obtain ⟨o,q,r⟩ := (gj1.extBut w2.extBut (Ne.symm ne)).extBut w3.extBut (Ne.symm ne); exact ⟨o,Heap.get?_push_of_some _ q,r⟩
 show wpAny _ _ (Builtin.SmallTypes.ownedTupleIsFree (.ref e) >>= _) _ _ ⟨k4,g,d,tk + 1,os⟩
 rw [sz]; clear hk4 ge3 w3 ge2 w2 ge1 w1 gj1 sz k3 k2 k1
 refine wpAny_bind ?_; unfold Builtin.SmallTypes.ownedTupleIsFree
 refine wpAny_bind (wpAny_field ge4 rfl (x := .none) rfl (wpAny_pure ?_)); simp only [if_true]
 refine wpAny_bind (wpAny_rule ?_); refine wpAny_bind (wpAny_field ge4 rfl (x := old) rfl ?_)
 refine wpAny_bind (wpAny_setField_rec ge4 (by simp) fun k5 ge5 w5 => ?_)
 replace w5 : Heap.SameBut e k4 k5 := w5
 replace ge5 : IsEnum k5 e j ((n : Int) + 1) x := ge5
 show wpAny _ _ (Builtin.SmallTypes.ownedTupleHandOut (.ref e) (.ref hp.objs.size) >>= _) _ _ ⟨k5,g,d,tk + 1,os⟩; refine wpAny_bind ?_; unfold Builtin.SmallTypes.ownedTupleHandOut
 refine wpAny_bind (wpAny_setField_rec ge5 (by simp) fun k6 ge6 w6 => ?_)
 replace w6 : Heap.SameBut e k5 k6 := w6
 replace ge6 : IsEnumOut k6 e j ((n : Int) + 1) x hp.objs.size := ge6
 refine wpAny_setField_rec ge6 (by simp) fun k7 ge7 w7 => ?_
 replace w7 : Heap.SameBut e k6 k7 := w7
 replace ge7 : IsEnumOut k7 e j ((n : Int) + 1) x hp.objs.size := ge7
 refine wpAny_bind (wpAny_letGo (wpAny_pure ⟨_,rfl,k k7 ge7 ?_ ?_ ?_ ?_⟩))
 . exact ((gj4.extBut w5.extBut (Ne.symm ne)).extBut w6.extBut (Ne.symm ne)).extBut w7.extBut (Ne.symm ne)
 . exact w7.extBut _ _ (Nat.ne_of_gt le) (w6.extBut _ _ (Nat.ne_of_gt le) (w5.extBut _ _ (Nat.ne_of_gt le) gt4))
 . rw [w7.1,w6.1,w5.1,sz4]
 . exact fun b o n1 n2 q => w7.extBut b o n1 (w6.extBut b o n1 (w5.extBut b o n1 (kp4 b o n1 n2 q)))
theorem Op {e j t : Addr} {n : Nat} {vs : Array Value} {x old : Value} {Q : Option Value -> Shared -> Prop} (ge : IsEnum s.heap e j n old) (gj : s.heap.IsTupleIter j t n) (gt : s.heap.IsTuple t vs) (gx : vs[n]? = some x) (ne : e ≠ j)
 (k : ∀ h',IsEnumOut h' e j ((n : Int) + 1) x s.heap.objs.size -> h'.IsTupleIter j t (n + 1) -> h'.get? s.heap.objs.size = some { cls := .type "tuple",data := .seq #[.int n s.toks,x] } -> h'.objs.size = s.heap.objs.size + 1 →
   (∀ b o,b ≠ e -> b ≠ j -> s.heap.get? b = some o -> h'.get? b = some o) -> Q (some (.ref s.heap.objs.size)) { s with heap := h',toks := s.toks + 1 }) : wpAny (model prog w) A (pyNext (.ref e)) Q E s := by
 have ht : s.TypeIs (.ref e) "enumerate" := ⟨_,ge,rfl⟩
 unfold pyNext
 exact wpAny_bind (wpAny_attempt (wpAny_callSpecial?_slot (name := Str.ofString "__next__") ht F.slot_enumerate_next (wpAny_call_entry F.slot_enumerate_next ht F.entry_enumerate_next (l6 ge gj gt gx ne fun h' a b c d q => wpAny_pure (k h' a b c d q)) (F.args_enumerate_next_1 _))))
theorem Q3 {e j t : Addr} {n : Nat} {vs : Array Value} {old : Value} {Q : Option Value -> Shared -> Prop} (hn : A.handled = none) (ge : IsEnum s.heap e j n old) (gj : s.heap.IsTupleIter j t n) (gt : s.heap.IsTuple t vs) (gx : vs[n]? = none)
 (k : ∀ h',Heap.ExtBut j s.heap h' -> Q none { s with heap := h' }) : wpAny (model prog w) A (pyNext (.ref e)) Q E s := by
 have ht : s.TypeIs (.ref e) "enumerate" := ⟨_,ge,rfl⟩
 unfold pyNext
 refine wpAny_bind (wpAny_attempt (wpAny_callSpecial?_slot (name := Str.ofString "__next__") ht F.slot_enumerate_next (wpAny_call_entry F.slot_enumerate_next ht F.entry_enumerate_next ?_ (F.args_enumerate_next_1 _))))
 show wpAny _ _ (field (.ref e) 2 >>= _) _ _ _; refine wpAny_bind (wpAny_field ge rfl (x := .ref j) rfl ?_)
 refine wpAny_bind (I0 hn gj gt gx fun h' x he hx => ?_)
 obtain ⟨o,q1,q2⟩ := hx
 exact wpAny_bind (wpAny_isInstance (T := "StopIteration") (b := true) ⟨o,q1,q2⟩ isSubtype_stop (wpAny_pure (k _ he)))
theorem p7 {t : Addr} {vs : Array Value} {Q : Value -> Shared -> Prop} (gt : s.heap.IsTuple t vs)
 (k : ∀ h',IsEnum h' (s.heap.objs.size + 1) s.heap.objs.size 0 .none -> h'.IsTupleIter s.heap.objs.size t 0 -> h'.objs.size = s.heap.objs.size + 2 -> (∀ b o,s.heap.get? b = some o -> h'.get? b = some o) -> Q (.ref (s.heap.objs.size + 1)) { s with heap := h' }) :
 wpAny (model prog w) A (call (.type "enumerate") [.ref t]) Q E s := by
 obtain ⟨⟨c,dd,dt,sl⟩,q,qc,n,qd⟩ := gt
 replace qc : c = .type "tuple" := qc
 replace qd : dt = .seq vs n := qd
 subst qc qd
 refine callType_new F.called_enumerate (by decide) (F.typeCall_enumerate_1 _) (F.newCall_enumerate_1 _) (fun obj => F.args_object_init_2 obj _) F.entry_enumerate_new (Ai4 t vs n dd sl) ⟨q,?_⟩
 have z1 : (zt1 s.heap t).objs.size = s.heap.objs.size + 1 := Heap.size_push ..
 show _ /\ _
 rw [z1]
 have ge : IsEnum ((zt1 s.heap t).push { cls := .type "enumerate",data := .fields #[.none,.bool false,.ref s.heap.objs.size,rawInt 0,.none,.none] }) (s.heap.objs.size + 1) s.heap.objs.size 0 .none := by
  have := Heap.get?_push_size (zt1 s.heap t) (o := { cls := .type "enumerate",data := .fields #[.none,.bool false,.ref s.heap.objs.size,rawInt 0,.none,.none] }) rfl
  rw [z1] at this; exact this
 exact ⟨⟨_,ge,rfl⟩,k _ ge ⟨_,Heap.get?_push_of_some _ (Heap.get?_push_size _ rfl),rfl,rfl⟩ (by rw [Heap.size_push,z1]) fun b o x => Heap.get?_push_of_some _ (Heap.get?_push_of_some _ x)⟩
end
def IteT (K : W.Frag) (a : Addr) : It :=
 ⟨fun i H => ∃ xs x,SqT K H a xs /\ xs[i]? = some x,fun i H x H' => ∃ p v,H p = none /\ x = .ref p /\ H' = upd H p (.tup [.int i,v]) /\ ∀ xs,SqT K H a xs -> xs[i]? = some v,fun i H => ∃ xs,SqT K H a xs /\ xs.length <= i⟩
theorem Zu {P : Program} {w : World} {K : W.Frag} {es : List Expr} {x1 : Nat} {tpos : Pos} (a e it : Addr) (hne : e ≠ it) : Turn P w K (.Tuple es x1 tpos) (IteT K a) [e,it] e (fun i h => (∃ old,IsEnum h e it (i : Int) old) /\ h.IsTupleIter it a i) where
 mem := by simp
 obj := fun i h st b hb => by
  obtain ⟨⟨old,h1⟩,o,h2,c,d⟩ := st
  rcases List.mem_cons.mp hb with rfl | hb
  . exact ⟨_,h1,fun v z => by cases (show Data.fields _ = Data.cell v from z)⟩
  . have z : b = it := by simpa using hb
    subst z
    exact ⟨o,h2,fun v z => by rw [d] at z; cases z⟩
 keep := fun i h h' st k => by
  obtain ⟨⟨old,h1⟩,h2⟩ := st
  exact ⟨⟨old,k e (by simp) _ h1⟩,h2.at fun o z => k it (by simp) o z⟩
 item := by
  intro X hP hw hK hc i pins s σ H E I hf st hg
  subst hP hw hK
  obtain ⟨⟨old,h1⟩,h2⟩ := st
  obtain ⟨xs,x,hq,hx⟩ := hg
  obtain ⟨its,rv,p,hz⟩ := I.tuple hq
  obtain ⟨u,hu,ru⟩ := rv.get hx
  have fe := hf e (by simp)
  have fi := hf it (by simp)
  have lte : e < s.heap.objs.size := Heap.lt_size h1
  have hfresh : H s.heap.objs.size = none := I.hok.fresh (Nat.le_refl _)
  refine Op h1 h2 (show s.heap.IsTuple a its.toArray from p) (x := u) (by simpa using hu) hne fun h' hout hit' htup hsz hk => ?_
  refine ⟨_,rfl,wpAny_letOwnedTupleGo_enum hout fun h3 hen hsb => ?_⟩
  replace hsb : Heap.SameBut e h' h3 := hsb
  have kk : ∀ b o,b ≠ e -> b ≠ it -> s.heap.get? b = some o -> h3.get? b = some o := fun b o n1 n2 z => (hsb.2 b n1).trans (hk b o n1 n2 z)
  have ht3 : h3.get? s.heap.objs.size = some { cls := .type "tuple",data := .seq #[.int i s.toks,u] } := (hsb.2 _ (Nat.ne_of_gt lte)).trans htup
  have hi3 : h3.IsTupleIter it a (i + 1) := hit'.at fun o z => (hsb.2 it hne.symm).trans z
  have nch : ∀ b,b ∉ [e,it] -> b ≠ e /\ b ≠ it := fun b hb => by simpa using hb
  have ntr : ∀ b v,H b = some v -> b ≠ e /\ b ≠ it := fun b v z => ⟨Ak z fe.1,Ak z fi.1⟩
  have nsz : ∀ b v,H b = some v -> b ≠ s.heap.objs.size := fun b v z => Ak z hfresh
  refine ⟨.ref s.heap.objs.size,upd H s.heap.objs.size (.tup [.int i,x]),?_,rfl,⟨s.heap.objs.size,x,hfresh,rfl,rfl,fun ys hy => by rw [I.tuple_inj hy hq]; exact hx⟩,⟨⟨_,hen⟩,hi3⟩,fun b hb => ?_⟩
  . refine Inv.step (s := s) (h' := h3) (t' := s.toks + 1) (H' := upd H s.heap.objs.size (.tup [.int i,x])) I (g' := s.gens) (d' := s.drawn) (ch := [e,it]) (fun b hb => ?_) (fun b o _ _ hb z _ => kk b o (nch b hb).1 (nch b hb).2 z) (fun b o _ _ hb z _ => ⟨o.slots,kk b o (nch b hb).1 (nch b hb).2 z⟩) (fun b o hb z n => ?_) (fun b o hb z => ⟨o,kk b o (nch b hb).1 (nch b hb).2 z⟩)
     (fun b ys z => by rw [Ae (nsz b _ z)]; exact z) (fun b o v z => by rw [Ae (nsz b _ z)]; exact z) (fun b ps z => ⟨#[],by rw [Ae (nsz b _ z),z]; simp⟩) (fun m hm => ?_) (fun b v z => ?_) I.bare
    . rcases List.mem_cons.mp hb with rfl | hb
      . exact ⟨fe.2.2.2.1,fe.2.1,fe.2.2.2.2.1,fe.2.2.2.2.2⟩
      . have z : b = it := by simpa using hb
        subst z
        exact ⟨fi.2.2.2.1,fi.2.1,fi.2.2.2.2.1,fi.2.2.2.2.2⟩
    . rw [Ae (Nat.ne_of_lt (Heap.lt_size z))]
      exact n
    . obtain ⟨o,es',ep,ho,r⟩ := hm
      exact ⟨o,es',ep,kk _ o fe.2.1.symm fi.2.1.symm ho,r⟩
    . by_cases hb : b = s.heap.objs.size
      . subst hb
        rw [Ab] at z
        cases z
        exact ⟨(by show (2 : Nat) <= sizeLine; decide),[.int i s.toks,u],.cons ⟨_,rfl⟩ (.cons ru .nil),⟨_,ht3,rfl,rfl,_,rfl⟩⟩
      . rw [Ae hb] at z
        refine (I.hok b v z).stay (fun c y hc' q => ?_) (fun c q => by rw [Ae (nsz c _ q)]; exact q) fun c ys q => by rw [Ae (nsz c _ q)]; exact q
        rcases hc' with rfl | hc'
        . exact kk _ _ (ntr _ _ z).1 (ntr _ _ z).2 q
        . exact kk _ _ (ntr _ _ hc').1 (ntr _ _ hc').2 q
  . have lb : b < s.heap.objs.size := by
     rcases List.mem_cons.mp hb with rfl | hb
     . exact lte
     . have z : b = it := by simpa using hb
       subst z
       obtain ⟨o,z,_⟩ := h2
       exact Heap.lt_size z
    rw [Ae (Nat.ne_of_lt lb)]
    exact (hf b hb).1
 done := by
  intro X hP hw hK hc i pins s σ H E I hf st hg
  subst hP hw hK
  obtain ⟨⟨old,h1⟩,h2⟩ := st
  obtain ⟨xs,hq,hx⟩ := hg
  obtain ⟨its,rv,p,hz⟩ := I.tuple hq
  obtain ⟨f0,f1,f2,f3,f4,f5⟩ := hf it (by simp)
  have hl := rv.length
  exact Q3 (I.ok.hd hc) h1 h2 (show s.heap.IsTuple a its.toArray from p) (by simp; omega) fun h' eb => ⟨rfl,I.turned (t' := s.toks) (fun b o hb z => eb b o hb z) f0 f1 f3 f4 f5⟩
 self := fun _ _ _ _ _ st h => by
  obtain ⟨⟨old,h1⟩,h2⟩ := st
  exact wpAny_pyIter_enum h1 h
def A72 (K : W.Frag) (ta : TA) : TI := fun σ H R => ta σ H fun vs H1 => ∃ a,vs = [.ref a] /\ (∃ xs,SqT K H1 a xs) /\ R (IteT K a) H1
theorem Nd : bootBuiltins "enumerate" = some (.type "enumerate") := by decide +kernel
theorem Ao4 {X : Cx} {K : W.Frag} {es : List Expr} {x1 : Nat} {tpos : Pos} {a : Expr} {ta : TA} {p pos : Pos} (hg : Gl X "enumerate") (hm : X.mg "enumerate" = none) (ha : PA X [a] ta) (hK : X.K = K := by rfl) (hs : starEach [a] X.env = [(false,eval a X.env)] := by rfl) : PI X (.Tuple es x1 tpos) (.Call (.Name "enumerate" p) [a] [] pos) (A72 K ta) := by
 subst hK
 intro pins s σ H R I h
 refine Call_ (Jc I hg hm Nd (PyProof.Rows.callWith_type1 (thn (ha pos pins s σ H _ I h) fun us s1 ⟨vs,H1,I1,r1,q1⟩ => ?_) hs rfl))
 obtain ⟨l,e,⟨xs,hq⟩,q⟩ := q1
 subst e
 cases r1 with
 | cons r rr =>
   cases rr
   cases r
   obtain ⟨its,rv,pl,hz⟩ := I1.tuple hq
   refine p7 (show s1.heap.IsTuple l its.toArray from pl) fun h' hen hit hsz hk => ?_
   refine wpAny_pyIter_enum hen ⟨s1.heap.objs.size + 1,[s1.heap.objs.size + 1,s1.heap.objs.size],_,_,H1,rfl,I1.kept (t' := s1.toks) hk,Zu l _ _ (Nat.succ_ne_self _),⟨⟨_,hen⟩,hit⟩,fun b hb => ?_,q⟩
   have lb : s1.heap.objs.size <= b := by
    rcases List.mem_cons.mp hb with rfl | hb
    . exact Nat.le_succ _
    . have z : b = s1.heap.objs.size := by simpa using hb
      rw [z]
      exact Nat.le_refl _
   exact I1.fpOk lb (I1.hok.fresh lb)
section
variable {g : TG} {tc : TT} {te : TE} {D : Addr} {Q : Hp -> Prop} {τ : St} {H : Hp}
theorem Ah9 {K : W.Frag} {a : Addr} {xs : List V} {g : TG} {tb : TS} {D : Ends} {σ : St} {H : Hp} (Pv : Nat -> St -> Hp -> Prop) (h0 : Pv 0 σ H) (hl : ∀ i σ H,i <= xs.length -> Pv i σ H -> SqT K H a xs)
 (hs : ∀ i x σ H p,xs[i]? = some x -> Pv i σ H -> H p = none -> g (.ref p) σ (upd H p (.tup [.int i,x])) fun σ2 H2 => tb { D with nx := Pv (i + 1),ct := Pv (i + 1),bk := D.nx } σ2 H2) (hd : ∀ σ H,Pv xs.length σ H -> D.nx σ H) :
 ∃ W : Nat -> Nat -> St -> Hp -> Prop,(∃ m,W 0 m σ H) /\ ∀ i m σ H,W i m σ H →
   ((IteT K a).stop i H /\ D.nx σ H) \/ ((IteT K a).go i H /\ ∃ N : St -> Hp -> Prop,(∀ σ' H',N σ' H' -> ∃ m',m' < m /\ W (i + 1) m' σ' H') /\ ∀ x H',(IteT K a).yld i H x H' -> g x σ H' fun σ2 H2 => tb { D with nx := N,ct := N,bk := D.nx } σ2 H2) := by
 refine ⟨fun i m σ H => m = xs.length - i /\ i <= xs.length /\ Pv i σ H,⟨xs.length,by simp,Nat.zero_le _,h0⟩,?_⟩
 rintro i m σ H ⟨rfl,hi,pp⟩
 have q := hl i σ H hi pp
 by_cases hlt : i < xs.length
 . refine .inr ⟨⟨xs,xs[i],q,by simp [hlt]⟩,Pv (i + 1),fun σ' H' p' => ⟨xs.length - (i + 1),by omega,rfl,hlt,p'⟩,fun x H' y => ?_⟩
   obtain ⟨p,v,hp,rfl,rfl,y⟩ := y
   exact hs i v σ _ p (y xs q) pp hp
 . have e : i = xs.length := by omega
   subst e
   exact .inl ⟨⟨xs,q,Nat.le_refl _⟩,hd σ H pp⟩
end
end L2
namespace Hb
def oftN (fs : List Int) (f : Int) : Nat -> Int
 | 0 => 0
 | i + 1 => if fs.getD i 0 = f then oftN fs f i + 1 - 2 * ((i : Int) % 2) else oftN fs f i
def oft (fs : List Int) (f : Int) : Int := oftN fs f fs.length
def ind (x e : Int) : Int := if x = e then 1 else 0
theorem Ax8 (e : Int) : oft [] e = 0 := rfl
theorem Ap7 (x y e : Int) : oft [x,y] e = ind x e - ind y e := by
 show (if y = e then (if x = e then (0 : Int) + 1 - 2 * (((0 : Nat) : Int) % 2) else 0) + 1 - 2 * (((1 : Nat) : Int) % 2) else (if x = e then (0 : Int) + 1 - 2 * (((0 : Nat) : Int) % 2) else 0)) = _
 unfold ind
 split <;> split <;> simp_all
theorem Ap6 (x y z e : Int) : oft [x,y,z] e = ind x e - ind y e + ind z e := by
 show (if z = e then oft [x,y] e + 1 - 2 * (((2 : Nat) : Int) % 2) else oft [x,y] e) = _
 rw [Ap7]
 unfold ind
 split <;> simp_all <;> omega
theorem len2 {l : List Int} (h : l.length = 2) : ∃ a b,l = [a,b] := by
 match l,h with
 | [a,b],_ => exact ⟨a,b,rfl⟩
theorem len3 {l : List Int} (h : l.length = 3) : ∃ a b c,l = [a,b,c] := by
 match l,h with
 | [a,b,c],_ => exact ⟨a,b,c,rfl⟩
theorem len4 {l : List Int} (h : l.length = 4) : ∃ a b c d,l = [a,b,c,d] := by
 match l,h with
 | [a,b,c,d],_ => exact ⟨a,b,c,d,rfl⟩
def sg (i : Nat) : Int := 1 - 2 * ((i : Int) % 2)
theorem A82 {xs : List (List Int)} (hs : Dl xs) {k : Nat} {q : List Int} (hq : xs[k]? = some q) (e : Int) : sumN (fun i => sg i * oft (xs.getD (q.getD i 0).toNat []) e) q.length = 0 := by
 have F := hs k q hq
 have face : ∀ f ∈ q,∃ p,xs.getD f.toNat [] = p /\ (xs.take k)[f.toNat]? = some p /\ lev p + 1 = lev q /\ (p.length = 0 \/ p.length = 2 \/ p.length = 3 \/ p.length = 4) := by
  intro f hf
  obtain ⟨p,hp,hl⟩ := F.bel f hf
  have hp2 : xs[f.toNat]? = some p := by
   rw [List.getElem?_take] at hp
   split at hp
   . exact hp
   . cases hp
  exact ⟨p,by rw [List.getD_eq_getElem?_getD,hp2]; rfl,hp,hl,(hs _ _ hp2).cnt⟩
 rcases F.cnt with h | h | h | h
 . rw [h]; rfl
 . obtain ⟨a,b,rfl⟩ := len2 h
   obtain ⟨A,ha,_,la,ca⟩ := face a (by simp)
   obtain ⟨B,hb,_,lb,cb⟩ := face b (by simp)
   have za : A = [] := by unfold lev at la; simp at la; apply List.eq_nil_of_length_eq_zero; omega
   have zb : B = [] := by unfold lev at lb; simp at lb; apply List.eq_nil_of_length_eq_zero; omega
   subst za zb
   show (0 : Int) + sg 0 * oft (xs.getD a.toNat []) e + sg 1 * oft (xs.getD b.toNat []) e = 0
   rw [ha,hb,Ax8]
   simp
 . obtain ⟨a,b,c,rfl⟩ := len3 h
   obtain ⟨A,ha,ga,la,ca⟩ := face a (by simp)
   obtain ⟨B,hb,gb,lb,cb⟩ := face b (by simp)
   obtain ⟨C,hc,gc,lc,cc⟩ := face c (by simp)
   obtain ⟨a0,a1,rfl⟩ := len2 (l := A) (by unfold lev at la; simp at la; omega)
   obtain ⟨b0,b1,rfl⟩ := len2 (l := B) (by unfold lev at lb; simp at lb; omega)
   obtain ⟨c0,c1,rfl⟩ := len2 (l := C) (by unfold lev at lc; simp at lc; omega)
   have G := F.agr (by simp)
   have e1 := G 0 1 b a _ _ (by decide) rfl rfl gb ga
   have e2 := G 0 2 c a _ _ (by decide) rfl rfl gc ga
   have e3 := G 1 2 c b _ _ (by decide) rfl rfl gc gb
   simp at e1 e2 e3
   subst e1 e2 e3
   show (0 : Int) + sg 0 * oft (xs.getD a.toNat []) e + sg 1 * oft (xs.getD b.toNat []) e + sg 2 * oft (xs.getD c.toNat []) e = 0
   rw [ha,hb,hc,Ap7,Ap7,Ap7]
   simp [sg]
   omega
 . obtain ⟨a,b,c,d,rfl⟩ := len4 h
   obtain ⟨A,ha,ga,la,ca⟩ := face a (by simp)
   obtain ⟨B,hb,gb,lb,cb⟩ := face b (by simp)
   obtain ⟨C,hc,gc,lc,cc⟩ := face c (by simp)
   obtain ⟨D,hd,gd,ld,cd⟩ := face d (by simp)
   obtain ⟨a0,a1,a2,rfl⟩ := len3 (l := A) (by unfold lev at la; simp at la; omega)
   obtain ⟨b0,b1,b2,rfl⟩ := len3 (l := B) (by unfold lev at lb; simp at lb; omega)
   obtain ⟨c0,c1,c2,rfl⟩ := len3 (l := C) (by unfold lev at lc; simp at lc; omega)
   obtain ⟨d0,d1,d2,rfl⟩ := len3 (l := D) (by unfold lev at ld; simp at ld; omega)
   have G := F.agr (by simp)
   have e1 := G 0 1 b a _ _ (by decide) rfl rfl gb ga
   have e2 := G 0 2 c a _ _ (by decide) rfl rfl gc ga
   have e3 := G 1 2 c b _ _ (by decide) rfl rfl gc gb
   have e4 := G 0 3 d a _ _ (by decide) rfl rfl gd ga
   have e5 := G 1 3 d b _ _ (by decide) rfl rfl gd gb
   have e6 := G 2 3 d c _ _ (by decide) rfl rfl gd gc
   simp at e1 e2 e3 e4 e5 e6
   subst e1 e2 e3 e4 e5 e6
   show (0 : Int) + sg 0 * oft (xs.getD a.toNat []) e + sg 1 * oft (xs.getD b.toNat []) e + sg 2 * oft (xs.getD c.toNat []) e + sg 3 * oft (xs.getD d.toNat []) e = 0
   rw [ha,hb,hc,hd,Ap6,Ap6,Ap6,Ap6]
   simp [sg]
   omega
end Hb
namespace Hb
open PySem L2
def sgn (n : Int) (i : Nat) : Int := if (i : Int) % 2 = 0 then n else -n
def K7 (ms : Ms) (fs : List Int) (n : Int) : Nat -> Ms
 | 0 => ms
 | i + 1 => addI (K7 ms fs n i) (fs.getD i 0) (sgn n i)
def addF (ms : Ms) (fs : List Int) (n : Int) : Ms := K7 ms fs n fs.length
theorem V2 (ms : Ms) (fs : List Int) (n k : Int) : ∀ i,getI (K7 ms fs n i) k = getI ms k + oftN fs k i * n
 | 0 => by simp [K7,oftN]
 | i + 1 => by
   show getI (addI (K7 ms fs n i) (fs.getD i 0) (sgn n i)) k = _
   rw [Ah6,V2 ms fs n k i]
   show _ = getI ms k + (if fs.getD i 0 = k then oftN fs k i + 1 - 2 * ((i : Int) % 2) else oftN fs k i) * n
   by_cases h : k = fs.getD i 0
   . rw [if_pos h,if_pos h.symm]
     have e : sgn n i = (1 - 2 * ((i : Int) % 2)) * n := by
      unfold sgn
      have : (i : Int) % 2 = 0 \/ (i : Int) % 2 = 1 := by omega
      rcases this with z | z
      . rw [if_pos z,z]; simp
      . rw [if_neg (by omega),z]; omega
     rw [e,show oftN fs k i + 1 - 2 * ((i : Int) % 2) = oftN fs k i + (1 - 2 * ((i : Int) % 2)) by omega,Int.add_mul]
     omega
   . rw [if_neg h,if_neg (fun z => h z.symm)]
theorem Tv {ms : Ms} (h : nd ms) (fs : List Int) (n : Int) : ∀ i,nd (K7 ms fs n i)
 | 0 => h
 | i + 1 => At4 (Tv h fs n i) _ _
theorem Vr (ms : Ms) (fs : List Int) (n : Int) : ∀ i,(K7 ms fs n i).length <= ms.length + i
 | 0 => Nat.le_refl _
 | i + 1 => by
   have h1 := Vr ms fs n i
   have h2 := X9 (K7 ms fs n i) (fs.getD i 0) (sgn n i)
   show (addI _ _ _).length <= _
   omega
def K9 (b : Addr) (H H1 : Hp) : Prop := ∀ c q,c ≠ b -> H c = some q -> H1 c = some q
section
variable {K : W.Frag} {H H1 : Hp} {b : Addr} {m : List (Key × V)}
theorem SqL.x (s : K9 b H H1) (hb : H b = some (.dK m)) {a : Addr} {xs : List V} (h : SqL K H a xs) : SqL K H1 a xs := by
 rcases h with (h | ⟨o,h⟩) | h
 . exact .inl (.inl (s _ _ (fun z => by rw [z,hb] at h; cases h) h))
 . exact .inl (.inr ⟨o,s _ _ (fun z => by rw [z,hb] at h; cases h) h⟩)
 . exact .inr h
theorem SqT.x (s : K9 b H H1) (hb : H b = some (.dK m)) {a : Addr} {xs : List V} (h : SqT K H a xs) : SqT K H1 a xs := by
 rcases h with (h | ⟨o,h⟩) | h
 . exact .inl (.inl (s _ _ (fun z => by rw [z,hb] at h; cases h) h))
 . exact .inl (.inr ⟨o,s _ _ (fun z => by rw [z,hb] at h; cases h) h⟩)
 . exact .inr h
mutual
theorem Rep.x (s : K9 b H H1) (hb : H b = some (.dK m)) {v : V} {d : L2.D} (h : Rep K H v d) : Rep K H1 v d := by
 cases d with
 | non => exact h
 | bl b => exact h
 | int i => exact h
 | str x => exact h
 | tup ds =>
   obtain ⟨a,vs,e,q,r⟩ := h
   exact ⟨a,vs,e,SqT.x s hb q,Reps.x s hb r⟩
 | lst ds =>
   obtain ⟨a,vs,e,q,r⟩ := h
   exact ⟨a,vs,e,SqL.x s hb q,Reps.x s hb r⟩
theorem Reps.x (s : K9 b H H1) (hb : H b = some (.dK m)) {vs : List V} {ds : List L2.D} (h : Reps K H vs ds) : Reps K H1 vs ds := by
 cases ds with
 | nil => exact h
 | cons d r =>
   obtain ⟨v,q,e,h1,h2⟩ := h
   exact ⟨v,q,e,Rep.x s hb h1,Reps.x s hb h2⟩
end
end
section
variable (K : W.Frag)
def Gy : Sp := fun vs H Q _ => ∃ (a : Addr) (v : V) (ms : Ms) (fs : List Int) (n : Int),vs = [.ref a,v,.int n] /\ H a = some (.dK (cK ms)) /\ TI K H v fs /\ ms.length + fs.length <= 100000 ∧
 ∀ H',K9 a H H' -> H' a = some (.dK (cK (addF ms fs n))) -> Q .non H'
end
end Hb
namespace L2
open PySem PySem.Spec PyProof.Rows
structure PEw (X : Cx) (e : Expr) (t : TE) : Prop where
 h : PE X e t
theorem Ax1 {X : Cx} {K : W.Frag} {sl : Expr} {es : List Expr} {k : Nat} {p q : Pos} {ta : TA} {tsl : TE} (ha : PAw X es ta) (hsl : PE X sl tsl) (hpi : Am9 sl) (hK : X.K = K := by rfl) :
 PEw X (.Subscript (.Tuple es k p) sl q) (tOp (rIxT K) (tTup ta) tsl) := by
 subst hK
 exact ⟨Bc Bb (Cd ha.h) hsl hpi⟩
end L2
namespace Hb
open PySem L2
theorem at0 (x : V) (r : List V) : atI (x :: r) 0 = some x := Cl (j := 0) rfl
theorem at1 (x y : V) (r : List V) : atI (x :: y :: r) 1 = some y := Cl (j := 1) rfl
theorem at2 (x y z : V) (r : List V) : atI (x :: y :: z :: r) 2 = some z := Cl (j := 2) rfl
section
variable (K : W.Frag)
end
end Hb
namespace Hb
open PySem L2
end Hb
namespace Hb
def isP (n : Int) : Bool := (List.range (n - 2).toNat).all fun k => decide (¬ n % (2 + (k : Int)) = 0)
structure Dz (p : Int) : Prop where
 two : 2 <= p
 free : ∀ k : Int,2 <= k -> k < p -> ¬ p % k = 0
theorem Ag8 {n : Int} (h2 : 2 <= n) (h : isP n = true) : Dz n := by
 refine ⟨h2,fun k k2 kn => ?_⟩
 have h' := List.all_eq_true.mp h (k - 2).toNat (List.mem_range.mpr (by omega))
 have e : (2 : Int) + ((k - 2).toNat : Int) = k := by omega
 rw [e] at h'
 simpa using h'
theorem Dz.div {p a : Int} (h : Dz p) (ha : 0 < a) (hd : a ∣ p) : a = 1 \/ a = p := by
 have h2 := h.two
 have hle : a <= p := Int.le_of_dvd (by omega) hd
 by_cases h1 : a = 1
 . exact .inl h1
 . by_cases hp : a = p
   . exact .inr hp
   . exact absurd (Int.emod_eq_zero_of_dvd hd) (h.free a (by omega) (by omega))
structure Eu (n p a x b u : Int) : Prop where
 ha : p ∣ a - x * n
 hb : p ∣ b - u * n
 dv : ∀ d : Int,d ∣ a -> d ∣ b -> d ∣ n /\ d ∣ p
theorem Eu.start (n p : Int) : Eu n p n 1 p 0 := ⟨by simp,by simp,fun d h1 h2 => ⟨h1,h2⟩⟩
theorem Eu.step {n p a x b u : Int} (h : Eu n p a x b u) (q : Int) : Eu n p b u (a - q * b) (x - q * u) := by
 refine ⟨h.hb,?_,fun d h1 h2 => ?_⟩
 . have e : a - q * b - (x - q * u) * n = (a - x * n) - q * (b - u * n) := by
    rw [Int.sub_mul,Int.mul_sub,Int.mul_assoc]
    omega
   rw [e]
   exact Int.dvd_sub h.ha (Int.dvd_mul_of_dvd_right h.hb)
 . have e : a = (a - q * b) + q * b := by omega
   refine h.dv d ?_ h1
   rw [e]
   exact Int.dvd_add h2 (Int.dvd_mul_of_dvd_right h1)
theorem Eu.last {n p a x u : Int} (h : Eu n p a x 0 u) (hp : Dz p) (hn : ¬ p ∣ n) (ha : 0 < a) : a = 1 := by
 obtain ⟨h1,h2⟩ := h.dv a (Int.dvd_refl a) (Int.dvd_zero a)
 rcases hp.div ha h2 with e | e
 . exact e
 . subst e
   exact absurd h1 hn
theorem Ap3 {n p x : Int} (h2 : 2 <= p) (h : p ∣ 1 - x * n) : 0 <= x % p /\ x % p < p /\ p ∣ 1 - (x % p) * n := by
 refine ⟨Int.emod_nonneg _ (by omega),Int.emod_lt_of_pos _ (by omega),?_⟩
 have e : 1 - (x % p) * n = (1 - x * n) + p * ((x / p) * n) := by
  have : x = p * (x / p) + x % p := (Int.mul_ediv_add_emod x p).symm
  have e2 : x * n = p * (x / p) * n + x % p * n := by
   rw [← Int.add_mul,← this]
  rw [e2,Int.mul_assoc]
  omega
 rw [e]
 exact Int.dvd_add h (Int.dvd_mul_right _ _)
def prs (m : Nat) : List Int := ((List.range m).map fun (i : Nat) => 2 + (i : Int)).filter isP
theorem Y7 (m : Nat) : prs (m + 1) = if isP (2 + (m : Int)) = true then prs m ++ [2 + (m : Int)] else prs m := by
 unfold prs
 rw [List.range_succ,List.map_append,List.filter_append]
 by_cases h : isP (2 + (m : Int)) = true
 . rw [if_pos h]; simp [List.filter,h]
 . rw [if_neg h]; simp [List.filter,h]
theorem Aw1 (m : Nat) : (prs m).length <= m := by
 unfold prs
 refine Nat.le_trans (List.length_filter_le ..) ?_
 simp
theorem A33 : (prs 96).length = 25 := by decide +kernel
theorem Aw0 {m : Nat} {p : Int} (h : p ∈ prs m) : Dz p /\ p < 2 + (m : Int) := by
 unfold prs at h
 rw [List.mem_filter] at h
 obtain ⟨h1,h2⟩ := h
 obtain ⟨i,hi,rfl⟩ := List.mem_map.mp h1
 have := List.mem_range.mp hi
 exact ⟨Ag8 (by omega) h2,by omega⟩
def dvs (n : Int) (m : Nat) : List Int := ((List.range m).map fun (i : Nat) => 2 + (i : Int)).filter fun k => decide (n % k = 0)
theorem Zh (n : Int) (m : Nat) : dvs n (m + 1) = if n % (2 + (m : Int)) = 0 then dvs n m ++ [2 + (m : Int)] else dvs n m := by
 unfold dvs
 rw [List.range_succ,List.map_append,List.filter_append]
 by_cases h : n % (2 + (m : Int)) = 0
 . rw [if_pos h]; simp [List.filter,h]
 . rw [if_neg h]; simp [List.filter,h]
theorem A03 (n : Int) (m : Nat) : (dvs n m).length <= m := by
 unfold dvs
 refine Nat.le_trans (List.length_filter_le ..) ?_
 simp
theorem Ar5 (n : Int) : ((dvs n (n - 2).toNat).length = 0) ↔ isP n = true := by
 unfold dvs isP
 rw [List.length_eq_zero_iff,List.filter_eq_nil_iff,List.all_eq_true]
 constructor
 . intro h k hk
   have := h (2 + (k : Int)) (List.mem_map.mpr ⟨k,hk,rfl⟩)
   simpa using this
 . intro h k hk
   obtain ⟨i,hi,rfl⟩ := List.mem_map.mp hk
   simpa using h i hi
end Hb
namespace L2
open PySem PySem.Spec PyProof.Rows
def rInK : R2 := fun x y H Q => ∃ a kvs k,y = .ref a /\ H a = some (.dK kvs) /\ x = kV k /\ Q (.bl (valV kvs k).isSome) H
theorem Ac1 {X : Cx} (hu : X.A.units + 1 < cLine) : OpR X (compareOp .In) rInK := by
 intro pins s σ H x y v u Q I rx ry h
 obtain ⟨a,kvs,k,rfl,ha,rfl,q⟩ := h
 obtain rfl : u = Value.ref a := ry
 exact d_in hu I (.k ha) rx fun s3 I3 => ⟨.bl (valV kvs k).isSome,H,I3,rfl,q⟩
end L2
namespace Hb
open PySem L2
theorem Ee {xs : List (List Int)} (h : Dl xs) : Yy xs := fun x hx => by
 obtain ⟨k,hk⟩ := List.getElem?_of_mem hx
 exact (h k x hk).cnt
theorem Lj {xs : List (List Int)} {q : List Int} (h : Dl xs) (hf : Fits xs q) : Dl (xs ++ [q]) := fun k p hk => by
 by_cases hlt : k < xs.length
 . rw [List.getElem?_append_left hlt] at hk
   rw [List.take_append_of_le_length (by omega)]
   exact h k p hk
 . have hk' : k < (xs ++ [q]).length := (List.getElem?_eq_some_iff.mp hk).1
   have e : k = xs.length := by simp at hk'; omega
   subst e
   simp at hk
   subst hk
   rw [List.take_append_of_le_length (Nat.le_refl _),List.take_length]
   exact hf
theorem Yg {xs : List (List Int)} {f : Int} (h0 : 0 <= f) (h1 : f < (xs.length : Int)) : xs[f.toNat]? = some (xs.getD f.toNat []) := by
 have : f.toNat < xs.length := by omega
 rw [List.getD_eq_getElem?_getD,List.getElem?_eq_getElem this]
 rfl
theorem j9 {xs : List (List Int)} {q : List Int} (h : En xs (tI q) = true) : ∀ f ∈ q,0 <= f /\ f < (xs.length : Int) /\ levI (xs.getD f.toNat []).length = levI q.length - 1 := by
 intro f hf
 have h' : En xs (.tup (nums q)) = true := h
 rw [Cn] at h'
 simp only [Bool.and_eq_true] at h'
 have h2 := List.all_eq_true.mp h'.1.2 (.int f) (List.mem_map.mpr ⟨f,hf,rfl⟩)
 have h3 : (decide (0 <= f) && decide (f < (xs.length : Int)) && decide (levI (xs.getD f.toNat []).length = levI (nums q).length - 1)) = true := h2
 simp only [Bool.and_eq_true,decide_eq_true_eq] at h3
 have hl : (nums q).length = q.length := by unfold nums; rw [List.length_map]
 rw [hl] at h3
 exact ⟨h3.1.1,h3.1.2,h3.2⟩
theorem Ar4 {xs : List (List Int)} {q : List Int} (h : En xs (tI q) = true) : q.length = 0 \/ q.length = 2 \/ q.length = 3 \/ q.length = 4 := by
 have h' : En xs (.tup (nums q)) = true := h
 rw [Cn] at h'
 simp only [Bool.and_eq_true] at h'
 have h1 := h'.1.1
 have hl : (nums q).length = q.length := by unfold nums; rw [List.length_map]
 rw [hl] at h1
 unfold cntB at h1
 simp only [Bool.or_eq_true,beq_iff_eq] at h1
 omega
theorem Af4 (q : List Int) : (nums q).map toI = q := by
 unfold nums
 rw [List.map_map]
 exact (List.map_congr_left fun _ _ => rfl).trans (List.map_id q)
theorem Yh {xs : List (List Int)} {q : List Int} (hc : Yy xs) (h : En xs (tI q) = true) : Fits xs q := by
 have hfs := j9 h
 have hcn := Ar4 h
 have hlev : ∀ f ∈ q,(xs.getD f.toNat []).length - 1 + 1 = q.length - 1 := fun f hf => by
  obtain ⟨h0,h1,h2⟩ := hfs f hf
  have hq : 1 <= q.length := List.length_pos_of_mem hf
  rw [Bu,Bu] at h2
  omega
 refine ⟨hcn,fun f hf => (hfs f hf).1,fun f hf => ?_,fun h3 i j f g r s hij hj hi hr hs => ?_⟩
 . obtain ⟨h0,h1,_⟩ := hfs f hf
   exact ⟨_,Yg h0 h1,hlev f hf⟩
 . have hf := List.mem_of_getElem? hj
   have hg := List.mem_of_getElem? hi
   obtain ⟨f0,f1,_⟩ := hfs f hf
   obtain ⟨g0,g1,_⟩ := hfs g hg
   have er : r = xs.getD f.toNat [] := by rw [Yg f0 f1] at hr; exact (Option.some.inj hr).symm
   have es : s = xs.getD g.toNat [] := by rw [Yg g0 g1] at hs; exact (Option.some.inj hs).symm
   have h' : En xs (.tup (nums q)) = true := h
   rw [Cn] at h'
   simp only [Bool.and_eq_true,Bool.or_eq_true,decide_eq_true_eq,Af4] at h'
   have hl : (nums q).length = q.length := by unfold nums; rw [List.length_map]
   have ha : Ek xs q = true := by
    rcases h'.2 with z | z
    . rw [hl,Bu] at z; omega
    . exact z
   have hjl : j < q.length := (List.getElem?_eq_some_iff.mp hj).1
   have h4 := List.all_eq_true.mp (List.all_eq_true.mp ha j (List.mem_range.mpr hjl)) i (List.mem_range.mpr hij)
   unfold J1 at h4
   have hjd : q.getD j 0 = f := by rw [List.getD_eq_getElem?_getD,hj]; rfl
   have hid : q.getD i 0 = g := by rw [List.getD_eq_getElem?_getD,hi]; rfl
   rw [hjd,hid,← er,← es,decide_eq_true_eq] at h4
   have l1 := hlev f hf
   have l2 := hlev g hg
   rw [← er] at l1
   rw [← es] at l2
   have hr' : r.length = 0 \/ r.length = 2 \/ r.length = 3 \/ r.length = 4 := by rw [er]; exact hc.at f0 f1
   have hs' : s.length = 0 \/ s.length = 2 \/ s.length = 3 \/ s.length = 4 := by rw [es]; exact hc.at g0 g1
   have i1 : i < r.length := by omega
   have j1 : j - 1 < s.length := by omega
   rw [List.getElem?_eq_getElem i1,List.getElem?_eq_getElem j1]
   rw [List.getD_eq_getElem?_getD,List.getD_eq_getElem?_getD,List.getElem?_eq_getElem i1,List.getElem?_eq_getElem j1] at h4
   exact congrArg some h4
def A00 (xs : List (List Int)) : DE -> Bool
 | .d d => En xs d
 | .nul => false
structure J3 (p : Int) (xs : List (List Int)) (es ss : List Ms) (bs : Ms) : Prop where
 shp : Dl xs
 le : es.length = xs.length
 ls : ss.length = xs.length
 n40 : xs.length <= 40
 eok : ∀ (i : Nat) m,es[i]? = some m -> OkM p m /\ ∀ x ∈ Az m,0 <= x /\ x < (i : Int) /\ ((xs.getD x.toNat []).length - 1) + 1 = (xs.getD i []).length - 1
 sok : ∀ (i : Nat) m,ss[i]? = some m -> OkM p m /\ ∀ x ∈ Az m,0 <= x /\ x <= (i : Int)
 bnd : nd bs
 bls : ∀ b e,A0 bs b = some e ↔ ∃ (i : Nat) (m : Ms),e = (i : Int) /\ es[i]? = some m /\ Top m b
theorem J3.nil (p : Int) : J3 p [] [] [] [] := ⟨fun k q h => by simp at h,rfl,rfl,by decide,fun i m h => by simp at h,fun i m h => by simp at h,List.nodup_nil,fun b e => ⟨fun h => by simp [A0] at h,fun ⟨i,m,_,h,_⟩ => by simp at h⟩⟩
theorem Top.no {b : Int} (h : Top [] b) : False := by have := h.mem; simp [Az] at this
theorem C7 {xs : List (List Int)} {q : List Int} {i : Nat} (h : i < xs.length) : (xs ++ [q]).getD i [] = xs.getD i [] := by
 rw [List.getD_eq_getElem?_getD,List.getD_eq_getElem?_getD,List.getElem?_append_left h]
theorem Nl {xs : List (List Int)} {q : List Int} : (xs ++ [q]).getD xs.length [] = q := by
 rw [List.getD_eq_getElem?_getD,List.getElem?_append_right (Nat.le_refl _)]
 simp
theorem Ch {α : Type} {l : List α} {x y : α} {i : Nat} (h : (l ++ [x])[i]? = some y) : (i < l.length /\ l[i]? = some y) \/ (i = l.length /\ y = x) := by
 by_cases hlt : i < l.length
 . rw [List.getElem?_append_left hlt] at h
   exact .inl ⟨hlt,h⟩
 . have hk' : i < (l ++ [x]).length := (List.getElem?_eq_some_iff.mp h).1
   have e : i = l.length := by simp at hk'; omega
   subst e
   simp at h
   exact .inr ⟨rfl,h.symm⟩
structure Bb1 (p : Int) (xs : List (List Int)) (bs : Ms) (q : List Int) (ms me : Ms) : Prop where
 h1 : OkM p ms
 k1 : ∀ x ∈ Az ms,0 <= x /\ x <= (xs.length : Int)
 h2 : OkM p me
 k2 : ∀ x ∈ Az me,0 <= x /\ x < (xs.length : Int) /\ (xs.getD x.toNat []).length - 1 + 1 = q.length - 1
 h3 : ∀ b,Top me b -> A0 bs b = none
theorem J3.grow {p : Int} {xs : List (List Int)} {es ss : List Ms} {bs : Ms} {q : List Int} {ms me bs' : Ms} (h : J3 p xs es ss bs) (hf : Fits xs q) (hn : xs.length < 40) (f : Bb1 p xs bs q ms me)
 (hb : (me = [] /\ bs' = bs) \/ ∃ b,Top me b /\ bs' = putI bs b (xs.length : Int)) : J3 p (xs ++ [q]) (es ++ [me]) (ss ++ [ms]) bs' := by
 refine ⟨Lj h.shp hf,by simp [h.le],by simp [h.ls],by simp; omega,fun i m hi => ?_,fun i m hi => ?_,?_,fun b e => ?_⟩
 . rcases Ch hi with ⟨hl,hi⟩ | ⟨rfl,rfl⟩
   . rw [h.le] at hl
     obtain ⟨a1,a2⟩ := h.eok i m hi
     refine ⟨a1,fun x hx => ?_⟩
     obtain ⟨b1,b2,b3⟩ := a2 x hx
     refine ⟨b1,b2,?_⟩
     rw [C7 (by omega),C7 hl]
     exact b3
   . refine ⟨f.h2,fun x hx => ?_⟩
     obtain ⟨b1,b2,b3⟩ := f.k2 x hx
     rw [h.le]
     refine ⟨b1,b2,?_⟩
     rw [C7 (by omega),Nl]
     exact b3
 . rcases Ch hi with ⟨hl,hi⟩ | ⟨rfl,rfl⟩
   . exact h.sok i m hi
   . rw [h.ls]
     exact ⟨f.h1,f.k1⟩
 . rcases hb with ⟨_,rfl⟩ | ⟨b,_,rfl⟩
   . exact h.bnd
   . exact Ae4 h.bnd _ _
 . rcases hb with ⟨rfl,rfl⟩ | ⟨b0,hb0,rfl⟩
   . rw [h.bls]
     constructor
     . rintro ⟨i,m,e1,e2,e3⟩
       exact ⟨i,m,e1,by rw [List.getElem?_append_left (List.getElem?_eq_some_iff.mp e2).1]; exact e2,e3⟩
     . rintro ⟨i,m,e1,e2,e3⟩
       rcases Ch e2 with ⟨_,e2⟩ | ⟨_,rfl⟩
       . exact ⟨i,m,e1,e2,e3⟩
       . exact (Top.no e3).elim
   . rw [Kp]
     by_cases hbb : b = b0
     . subst hbb
       rw [if_pos rfl]
       constructor
       . intro z
         cases z
         exact ⟨es.length,me,by rw [h.le],by simp,hb0⟩
       . rintro ⟨i,m,e1,e2,e3⟩
         rcases Ch e2 with ⟨_,e2⟩ | ⟨e4,rfl⟩
         . have := (h.bls b (i : Int)).mpr ⟨i,m,rfl,e2,e3⟩
           rw [f.h3 b hb0] at this
           cases this
         . rw [e1,e4,h.le]
     . rw [if_neg hbb,h.bls]
       constructor
       . rintro ⟨i,m,e1,e2,e3⟩
         exact ⟨i,m,e1,by rw [List.getElem?_append_left (List.getElem?_eq_some_iff.mp e2).1]; exact e2,e3⟩
       . rintro ⟨i,m,e1,e2,e3⟩
         rcases Ch e2 with ⟨_,e2⟩ | ⟨_,rfl⟩
         . exact ⟨i,m,e1,e2,e3⟩
         . exact absurd (Top.one e3 hb0) hbb
theorem D1 {ms : Ms} (h : nd ms) (hk : ∀ x ∈ Az ms,0 <= x /\ x <= 40) : ms.length <= 41 := by
 have := At6 (Az ms) ((List.range 41).map fun (i : Nat) => (i : Int)) h fun x hx => by
  obtain ⟨h1,h2⟩ := hk x hx
  exact List.mem_map.mpr ⟨x.toNat,List.mem_range.mpr (by omega),by omega⟩
 unfold Az at this
 simpa using this
theorem J3.blen {p : Int} {xs : List (List Int)} {es ss : List Ms} {bs : Ms} (h : J3 p xs es ss bs) : bs.length <= 41 := by
 refine D1 h.bnd fun x hx => ?_
 obtain ⟨r,hr,rfl⟩ := List.mem_map.mp hx
 obtain ⟨i,m,_,e2,e3⟩ := (h.bls r.1 r.2).mp (Ni h.bnd hr)
 have hl : i < xs.length := by rw [← h.le]; exact (List.getElem?_eq_some_iff.mp e2).1
 have := (h.eok i m e2).2 _ e3.mem
 have := h.n40
 omega
theorem As8 {ms : Ms} (h : ms ≠ []) : ∃ b,Top ms b := by
 induction ms with
 | nil => exact absurd rfl h
 | cons q ms ih =>
   by_cases hm : ms = []
   . subst hm
     exact ⟨q.1,by simp [Az],fun x hx => by simp [Az] at hx; omega⟩
   . obtain ⟨b,hb⟩ := ih hm
     by_cases hq : q.1 <= b
     . refine ⟨b,List.mem_cons_of_mem _ hb.mem,fun x hx => ?_⟩
       rcases List.mem_cons.mp hx with z | z
       . have : x = q.1 := z
         omega
       . exact hb.le x z
     . refine ⟨q.1,List.mem_cons_self,fun x hx => ?_⟩
       rcases List.mem_cons.mp hx with z | z
       . have : x = q.1 := z
         omega
       . have := hb.le x z
         omega
theorem Wf {p n : Int} {es fs : Ms} (hp : 0 < p) (he : OkM p es) (hf : OkM p fs) : OkM p (modI p (Dg es (A7 n fs))) /\ ∀ x ∈ Az (modI p (Dg es (A7 n fs))),x ∈ Az es \/ x ∈ Az fs := by
 have ndt : nd (A7 n fs) := by
  unfold A7
  split
  . exact List.nodup_nil
  . exact Id hf.nd _
 obtain ⟨n1,n2,n3,n4⟩ := Js (A7 n fs) es he.nd he.nz ndt
 have ok := Zd n1 hp
 refine ⟨ok,fun x hx => ?_⟩
 have hx0 := (O1 ok.nz).mpr hx
 rw [G9 n1,n4,Hl] at hx0
 by_cases h1 : x ∈ Az es
 . exact .inl h1
 by_cases h2 : x ∈ Az fs
 . exact .inr h2
 . rw [B7 h1,B7 h2] at hx0
   simp at hx0
theorem Ay9 {ms : Ms} {k n x : Int} (h : x ∈ Az (addI ms k n)) : x ∈ Az ms \/ x = k := by
 unfold addI at h
 split at h
 . obtain ⟨r,hr,rfl⟩ := List.mem_map.mp h
   exact .inl (List.mem_map.mpr ⟨r,(List.mem_filter.mp hr).1,rfl⟩)
 . obtain ⟨r,hr,rfl⟩ := List.mem_map.mp h
   rcases Af0 hr with z | z
   . exact .inl (List.mem_map.mpr ⟨r,z,rfl⟩)
   . rw [z]; exact .inr rfl
theorem Vu {fs : List Int} {n x : Int} : ∀ {i : Nat},i <= fs.length -> x ∈ Az (K7 [] fs n i) -> x ∈ fs
 | 0,_,h => by simp [K7,Az] at h
 | i + 1,hi,h => by
   rcases Ay9 (show x ∈ Az (addI (K7 [] fs n i) (fs.getD i 0) (sgn n i)) from h) with z | z
   . exact Vu (by omega) z
   . rw [z,List.getD_eq_getElem?_getD,List.getElem?_eq_getElem (by omega)]
     exact List.getElem_mem _
theorem Top.look {p : Int} {ms : Ms} {b : Int} (h : OkM p ms) (t : Top ms b) : A0 ms b = some (getI ms b) /\ 0 < getI ms b /\ getI ms b < p := by
 obtain ⟨r,hr,rfl⟩ := List.mem_map.mp t.mem
 have e := Ni h.nd hr
 have e2 : getI ms r.1 = r.2 := by unfold getI; rw [e]; rfl
 rw [e2]
 exact ⟨e,h.bd r hr⟩
theorem ndvd {p v : Int} (h0 : 0 < v) (h1 : v < p) : ¬ p ∣ v := fun z => by have := Int.le_of_dvd h0 z; omega
structure Gg (H : Hp) (l en : Addr) (ms : List Ms) : Prop where
 ex : ∃ ds : List Addr,H l = some (.lst (ds.map V.ref)) /\ ds.length = ms.length /\ ∀ (i : Nat) d m,ds[i]? = some d -> ms[i]? = some m -> H d = some (.dK (cK m)) /\ d ≠ en
structure B5 (K : W.Frag) (CG : Addr) (H : Hp) (g pc sh ed en : Addr) (p : Int) (xs : List (List Int)) (es ss : List Ms) (bs : Ms) : Prop where
 ob : ∃ dx fs,H g = some (.ins CG dx fs) /\ fs.lookup ("prime" : Str) = some (.int p) /\ fs.lookup ("pieces" : Str) = some (.ref pc) /\ fs.lookup ("sheets" : Str) = some (.ref sh) /\ fs.lookup ("edges" : Str) = some (.ref ed) /\ fs.lookup ("enders" : Str) = some (.ref en) ∧
  (fs.lookup ("grow" : Str) = none /\ fs.lookup ("settled" : Str) = none /\ fs.lookup ("take_back" : Str) = none /\ fs.lookup ("shape" : Str) = none /\ fs.lookup ("paper" : Str) = none /\ fs.lookup ("pairs" : Str) = none /\ fs.lookup ("alive" : Str) = none)
 pcs : ∃ us,H pc = some (.lst us) /\ Reps K H us (xs.map tI)
 eds : Gg H ed en es
 shs : Gg H sh en ss
 ens : H en = some (.dK (cK bs))
 ne : pc ≠ sh /\ pc ≠ ed /\ sh ≠ ed
 gw : J3 p xs es ss bs
 pr : Dz p /\ p < 98
def W4 (pc sh ed en : Addr) : Addr -> Prop := fun a => a = pc \/ a = sh \/ a = ed \/ a = en
def FrG (pc sh ed en : Addr) (H H' : Hp) : Prop := ∀ c o,¬ W4 pc sh ed en c -> H c = some o -> H' c = some o
theorem FrG.of {pc sh ed en : Addr} {H H' : Hp} (s : Same H H') : FrG pc sh ed en H H' := fun c o _ e => s c o e
theorem FrG.trans {pc sh ed en : Addr} {H H1 H2 : Hp} (a : FrG pc sh ed en H H1) (b : FrG pc sh ed en H1 H2) : FrG pc sh ed en H H2 := fun c o n e => b c o n (a c o n e)
theorem FrG.up {pc sh ed en c : Addr} {H : Hp} {o : HO} (h : W4 pc sh ed en c) : FrG pc sh ed en H (upd H c o) := fun d u n e => by
 have hn : d ≠ c := fun z => by subst z; exact n h
 rw [Ae hn]
 exact e
def Mut (H : Hp) (c : Addr) : Prop := (∃ us,H c = some (.lst us)) \/ ∃ kvs,H c = some (.dK kvs)
theorem Mut.there {H : Hp} {c : Addr} (h : Mut H c) : H c ≠ none := by
 rcases h with ⟨_,h⟩ | ⟨_,h⟩ <;> (rw [h]; intro z; cases z)
section
variable {K : W.Frag} {CG : Addr} {H H' : Hp} {g pc sh ed en : Addr} {p : Int} {xs : List (List Int)} {es ss : List Ms} {bs : Ms}
theorem Gg.get {l : Addr} {ms : List Ms} (x : Gg H l en ms) {i : Nat} {m : Ms} (h : ms[i]? = some m) : ∃ (ds : List Addr) (d : Addr),H l = some (.lst (ds.map V.ref)) /\ ds[i]? = some d /\ H d = some (.dK (cK m)) /\ d ≠ en := by
 obtain ⟨ds,h1,h2,h3⟩ := x.ex
 have hi : i < ds.length := by rw [h2]; exact (List.getElem?_eq_some_iff.mp h).1
 obtain ⟨h4,h5⟩ := h3 i ds[i] m (List.getElem?_eq_getElem hi) h
 exact ⟨ds,ds[i],h1,List.getElem?_eq_getElem hi,h4,h5⟩
theorem Gg.same {l : Addr} {ms : List Ms} (x : Gg H l en ms) (s : Same H H') : Gg H' l en ms := by
 obtain ⟨ds,h1,h2,h3⟩ := x.ex
 exact ⟨ds,s _ _ h1,h2,fun i d m e1 e2 => ⟨s _ _ (h3 i d m e1 e2).1,(h3 i d m e1 e2).2⟩⟩
theorem B5.same (x : B5 K CG H g pc sh ed en p xs es ss bs) (s : Same H H') : B5 K CG H' g pc sh ed en p xs es ss bs := by
 obtain ⟨dx,fs,h1,h2⟩ := x.ob
 obtain ⟨us,h3,h4⟩ := x.pcs
 exact ⟨⟨dx,fs,s _ _ h1,h2⟩,⟨us,s _ _ h3,Reps.same s h4⟩,x.eds.same s,x.shs.same s,s _ _ x.ens,x.ne,x.gw,x.pr⟩
theorem B5.mut (x : B5 K CG H g pc sh ed en p xs es ss bs) : ∀ c,W4 pc sh ed en c -> Mut H c := by
 rintro c (rfl | rfl | rfl | rfl)
 . obtain ⟨us,h,_⟩ := x.pcs
   exact .inl ⟨_,h⟩
 . obtain ⟨ds,h,_⟩ := x.shs.ex
   exact .inl ⟨_,h⟩
 . obtain ⟨ds,h,_⟩ := x.eds.ex
   exact .inl ⟨_,h⟩
 . exact .inr ⟨_,x.ens⟩
theorem FrG.t (x : B5 K CG H g pc sh ed en p xs es ss bs) (fr : FrG pc sh ed en H H') : K8 H H' := by
 refine ⟨fun b us e => fr b _ (fun w => ?_) e,fun b o u e => fr b _ (fun w => ?_) e⟩
 . rcases x.mut b w with ⟨_,z⟩ | ⟨_,z⟩ <;> (rw [z] at e; cases e)
 . rcases x.mut b w with ⟨_,z⟩ | ⟨_,z⟩ <;> (rw [z] at e; cases e)
theorem B5.other (x : B5 K CG H g pc sh ed en p xs es ss bs) {hd : Addr} {us : List V} {o : HO} (h : H hd = some (.lst us)) (n1 : hd ≠ pc) (n2 : hd ≠ sh) (n3 : hd ≠ ed) : B5 K CG (upd H hd o) g pc sh ed en p xs es ss bs := by
 obtain ⟨dx,fs,h1,h2⟩ := x.ob
 obtain ⟨vs,h3,h4⟩ := x.pcs
 obtain ⟨ds,a1,a2,a3⟩ := x.eds.ex
 obtain ⟨cs,b1,b2,b3⟩ := x.shs.ex
 have nl : ∀ {c : Addr} {o' : HO},H c = some o' -> (∀ us,o' ≠ .lst us) -> c ≠ hd := fun {c o'} e n z => by rw [z,h] at e; cases e; exact n _ rfl
 refine ⟨⟨dx,fs,by rw [Ae (nl h1 (fun _ z => by cases z))]; exact h1,h2⟩,⟨vs,by rw [Ae n1.symm]; exact h3,Reps.t (K8.lst h) (Ih _) h4⟩,⟨ds,by rw [Ae n3.symm]; exact a1,a2,fun i d m e1 e2 => ?_⟩,⟨cs,by rw [Ae n2.symm]; exact b1,b2,fun i d m e1 e2 => ?_⟩,by rw [Ae (nl x.ens (fun _ z => by cases z))]; exact x.ens,x.ne,x.gw,x.pr⟩
 . obtain ⟨c1,c2⟩ := a3 i d m e1 e2
   exact ⟨by rw [Ae (nl c1 (fun _ z => by cases z))]; exact c1,c2⟩
 . obtain ⟨c1,c2⟩ := b3 i d m e1 e2
   exact ⟨by rw [Ae (nl c1 (fun _ z => by cases z))]; exact c1,c2⟩
theorem B5.put (x : B5 K CG H g pc sh ed en p xs es ss bs) {us : List V} {ds cs : List Addr} {xs' : List (List Int)} {es' ss' : List Ms} {bs' : Ms} (hr : Reps K H us (xs'.map tI))
 (l1 : ds.length = es'.length) (h1 : ∀ (i : Nat) d m,ds[i]? = some d -> es'[i]? = some m -> H d = some (.dK (cK m)) /\ d ≠ en) (l2 : cs.length = ss'.length) (h2 : ∀ (i : Nat) d m,cs[i]? = some d -> ss'[i]? = some m -> H d = some (.dK (cK m)) /\ d ≠ en) (gw : J3 p xs' es' ss' bs') :
 B5 K CG (upd (upd (upd (upd H pc (.lst us)) sh (.lst (cs.map V.ref))) ed (.lst (ds.map V.ref))) en (.dK (cK bs'))) g pc sh ed en p xs' es' ss' bs' := by
 obtain ⟨dx,fs,a1,a2⟩ := x.ob
 obtain ⟨n1,n2,n3⟩ := x.ne
 have mu := x.mut
 have ins : ∀ {c : Addr} {o : HO},H c = some o -> (∀ us,o ≠ .lst us) -> c ≠ en -> upd (upd (upd (upd H pc (.lst us)) sh (.lst (cs.map V.ref))) ed (.lst (ds.map V.ref))) en (.dK (cK bs')) c = some o := fun {c o} e n m => by
  obtain ⟨_,q1,_⟩ := x.pcs
  obtain ⟨_,q2,_⟩ := x.shs.ex
  obtain ⟨_,q3,_⟩ := x.eds.ex
  rw [Ae m,Ae (fun z => by rw [z,q3] at e; cases e; exact n _ rfl),Ae (fun z => by rw [z,q2] at e; cases e; exact n _ rfl),Ae (fun z => by rw [z,q1] at e; cases e; exact n _ rfl)]
  exact e
 have nen : ∀ {c : Addr} {us : List V},H c = some (.lst us) -> c ≠ en := fun {c us} e z => by rw [z,x.ens] at e; cases e
 obtain ⟨_,q1,_⟩ := x.pcs
 obtain ⟨_,q2,_⟩ := x.shs.ex
 obtain ⟨_,q3,_⟩ := x.eds.ex
 have ts : K8 H (upd (upd (upd (upd H pc (.lst us)) sh (.lst (cs.map V.ref))) ed (.lst (ds.map V.ref))) en (.dK (cK bs'))) :=
  ⟨fun b us e => ins e (fun _ z => by cases z) (fun z => by rw [z,x.ens] at e; cases e),fun b o u e => ins e (fun _ z => by cases z) (fun z => by rw [z,x.ens] at e; cases e)⟩
 refine ⟨⟨dx,fs,ins a1 (fun _ z => by cases z) (fun z => by rw [z,x.ens] at a1; cases a1),a2⟩,⟨us,?_,Reps.t ts (Ih _) hr⟩,⟨ds,?_,l1,fun i d m e1 e2 => ?_⟩,⟨cs,?_,l2,fun i d m e1 e2 => ?_⟩,Ab,x.ne,gw,x.pr⟩
 . rw [Ae (nen q1),Ae n2,Ae n1,Ab]
 . rw [Ae (nen q3),Ab]
 . obtain ⟨c1,c2⟩ := h1 i d m e1 e2
   exact ⟨ins c1 (fun _ z => by cases z) c2,c2⟩
 . rw [Ae (nen q2),Ae n3,Ab]
 . obtain ⟨c1,c2⟩ := h2 i d m e1 e2
   exact ⟨ins c1 (fun _ z => by cases z) c2,c2⟩
end
section
variable {H H' H0 : Hp} {Z W : Addr -> Prop}
end
section
variable {K : W.Frag} {CG : Addr} {H H' : Hp} {g pc sh ed en : Addr} {p : Int} {xs : List (List Int)} {es ss : List Ms} {bs : Ms} {W : Addr -> Prop}
end
def meetsB (xs : List (List Int)) (fs : List Int) (f : Int) : Bool := decide ((xs.getD f.toNat []).length = 0) || (List.range fs.length).all fun i => decide ((xs.getD f.toNat []).getD i 0 = (xs.getD (fs.getD i 0).toNat []).getD (fs.length - 1) 0)
section
variable (K : W.Frag) (CG : Addr)
def Hy (_K : W.Frag) : Sp := fun vs H Q _ => ∃ (a : Addr) (ms : Ms) (p : Int),vs = [.ref a,.int p] /\ H a = some (.dK (cK ms)) /\ ms.length <= 1000 /\ nd ms /\ 0 < p /\ newC H (modI p ms) Q
def Nr (_K : W.Frag) : Sp := fun vs H Q _ => ∃ (p : Int),vs = [.int p] /\ Dz p /\ p < 98 /\ ∀ H',Same H H' -> Q (.bl true) H'
def Xc : Sp := fun vs H Q _ => ∃ n p : Int,vs = [.int n,.int p] /\ Dz p /\ p < 98 /\ ¬ p ∣ n /\ ∀ (L : Addr) (x y : Int) (H' : Hp),Same H H' -> SqT K H' L [.int 1,.int x,.int y] -> p ∣ 1 - x * n -> Q (.ref L) H'
def Sw (_K : W.Frag) : Sp := fun vs H Q _ => ∃ n p : Int,vs = [.int n,.int p] /\ Dz p /\ p < 98 /\ ¬ p ∣ n /\ ∀ (f : Int) (H' : Hp),Same H H' -> 0 <= f -> f < p -> p ∣ 1 - f * n -> Q (.int f) H'
def Sx : Sp := fun vs H Q _ => ∃ (a : Addr) (th : V) (e : DE) (xs : List (List Int)),vs = [.ref a,th] /\ LT K H (.ref a) xs /\ RepE K H th e /\ ∀ H',Same H H' -> Q (.bl (A00 xs e)) H'
def Nt : Sp := fun vs H Q _ => ∃ (a : Addr) (th : V) (e : DE) (xs : List (List Int)),vs = [.ref a,th] /\ LT K H (.ref a) xs /\ Yy xs /\ xs.length <= 1000 /\ RepE K H th e /\ ∀ H',Same H H' -> Q (.bl (A00 xs e)) H'
def J9 : Sp := fun vs H Q _ => ∃ (a : Addr) (v : V) (xs : List (List Int)) (fs : List Int) (f : Int),vs = [.ref a,v,.int f] /\ LT K H (.ref a) xs /\ TI K H v fs /\ 0 <= f /\ f < (xs.length : Int) /\ (∀ g ∈ fs,0 <= g /\ g < (xs.length : Int)) /\ fs.length <= 4 ∧
 ((xs.getD f.toNat []).length = 0 \/ (fs.length <= (xs.getD f.toNat []).length /\ ∀ g ∈ fs,fs.length <= (xs.getD g.toNat []).length)) /\ Q (.bl (meetsB xs fs f)) H
def Kb : Sp := fun vs H Q _ => ∃ (g dx : Addr) (p : Int),vs = [.ref g,.int p] /\ H g = some (.ins CG dx []) /\ Dz p /\ p < 98 ∧
 ∀ (pc sh ed en : Addr) (H' : Hp),H pc = none -> H sh = none -> H ed = none -> H en = none -> SameX g H H' -> B5 K CG H' g pc sh ed en p [] [] [] [] -> Q .non H'
end
theorem mod_take {p : Int} {ms : Ms} {i : Nat} {q : Int × Int} (hq : ms[i]? = some q) : modI p (ms.take (i + 1)) = if q.2 % p = 0 then modI p (ms.take i) else modI p (ms.take i) ++ [(q.1,q.2 % p)] := by
 unfold modI
 rw [List.take_succ,hq,List.filter_append,List.map_append]
 show _ ++ ((List.filter _ [q]).map _) = _
 by_cases h : q.2 % p = 0
 . rw [if_pos h,List.filter_cons_of_neg (by simpa using h)]
   simp
 . rw [if_neg h,List.filter_cons_of_pos (by simpa using h)]
   rfl
theorem Oq {xs : List (List Int)} {p : List Int} {j : Nat} (hj : j < p.length) : meetsB xs (p.take j) (p.getD j 0) = (decide ((xs.getD (p.getD j 0).toNat []).length = 0) || (List.range j).all fun i => J1 xs p j i) := by
 unfold meetsB
 have hl : (p.take j).length = j := by rw [List.length_take]; omega
 rw [hl]
 congr 1
 rw [Bool.eq_iff_iff,List.all_eq_true,List.all_eq_true]
 have e : ∀ i,i < j -> (p.take j).getD i 0 = p.getD i 0 := fun i hi => by rw [List.getD_eq_getElem?_getD,List.getD_eq_getElem?_getD,List.getElem?_take_of_lt hi]
 constructor
 . intro h i hi
   have := h i hi
   rw [e i (List.mem_range.mp hi)] at this
   exact this
 . intro h i hi
   rw [e i (List.mem_range.mp hi)]
   exact h i hi
theorem Af1 {xs : List (List Int)} {p : List Int} (hC : Yy xs) (hall : ∀ f ∈ p,0 <= f /\ f < (xs.length : Int) /\ levI (xs.getD f.toNat []).length + 1 = levI p.length) : (∀ j,j < p.length -> meetsB xs (p.take j) (p.getD j 0) = true) ↔ (decide (levI p.length < 2) || Ek xs p) = true := by
 constructor
 . intro h
   by_cases hl : levI p.length < 2
   . rw [decide_eq_true hl]; rfl
   . rw [decide_eq_false hl,Bool.false_or]
     unfold Ek
     rw [List.all_eq_true]
     intro j hj
     have hj' := List.mem_range.mp hj
     have h1 := h j hj'
     rw [Oq hj'] at h1
     obtain ⟨x0,x1,x2⟩ := hall _ (Ct (d := 0) hj')
     have hne : ¬ (xs.getD (p.getD j 0).toNat []).length = 0 := fun z => by rw [z,Bu] at x2; omega
     rw [decide_eq_false hne,Bool.false_or] at h1
     exact h1
 . intro h j hj
   rw [Oq hj]
   obtain ⟨x0,x1,x2⟩ := hall _ (Ct (d := 0) hj)
   by_cases hl : levI p.length < 2
   . have hc := hC.at x0 x1
     have hz : (xs.getD (p.getD j 0).toNat []).length = 0 := by rw [Bu] at x2; omega
     rw [decide_eq_true hz]; rfl
   . rw [decide_eq_false hl,Bool.false_or] at h
     unfold Ek at h
     rw [List.all_eq_true] at h
     rw [h j (List.mem_range.mpr hj),Bool.or_true]
section
variable {K : W.Frag} {CG CP CS : Addr}
end
theorem init_step {H Hk : Hp} {g a C dx : Addr} {fs : List (Str × V)} (fs' : List (Str × V)) {o : HO} (sx : SameX g H Hk) (eg : Hk g = some (.ins C dx fs)) (ha : Hk a = none) :
 SameX g H (upd (upd Hk a o) g (.ins C dx fs')) /\ upd (upd Hk a o) g (.ins C dx fs') g = some (.ins C dx fs') /\ upd (upd Hk a o) g (.ins C dx fs') a = some o /\ (∀ b q,b ≠ g -> Hk b = some q -> upd (upd Hk a o) g (.ins C dx fs') b = some q) /\ H a = none /\ a ≠ g := by
 have hag : a ≠ g := fun z => by rw [z,eg] at ha; cases ha
 have pers : ∀ b q,b ≠ g -> Hk b = some q -> upd (upd Hk a o) g (.ins C dx fs') b = some q := fun b q n e => by rw [Ae n,Ae (fun z => by rw [z,ha] at e; cases e)]; exact e
 refine ⟨fun b q n e => pers b q n (sx b q n e),Ab,by rw [Ae hag,Ab],pers,?_,hag⟩
 cases e : H a with
 | none => rfl
 | some q => have := sx a q hag e; rw [ha] at this; cases this
theorem Yb (ms : Ms) : (cK ms).map (·.1) = (Az ms).map fun k => (.inl k : Key) := by
 unfold cK Az
 rw [List.map_map,List.map_map]
 rfl
theorem Ya {ms : Ms} (h : ms ≠ []) : Az ms ≠ [] := fun z => h (by unfold Az at z; simpa using z)
theorem w9 {H H1 : Hp} {a : Addr} {o : HO} (h : H a = none) (s : K9 a (upd H a o) H1) : Same H H1 := fun c q e => by
 have n : c ≠ a := Ak e h
 exact s c q n (by rw [Ae n]; exact e)
theorem Ze (l : List Addr) (a : Addr) : l.map V.ref ++ [.ref a] = (l ++ [a]).map V.ref := by rw [List.map_append]; rfl
theorem Pm {H : Hp} {en d : Addr} {ds : List Addr} {ms : List Ms} {m : Ms} (hl : ds.length = ms.length) (h : ∀ (i : Nat) d m,ds[i]? = some d -> ms[i]? = some m -> H d = some (.dK (cK m)) /\ d ≠ en) (hd : H d = some (.dK (cK m))) (hn : d ≠ en) :
 (ds ++ [d]).length = (ms ++ [m]).length /\ ∀ (i : Nat) d' m',(ds ++ [d])[i]? = some d' -> (ms ++ [m])[i]? = some m' -> H d' = some (.dK (cK m')) /\ d' ≠ en := by
 refine ⟨by simp [hl],fun i d' m' e1 e2 => ?_⟩
 rcases Ch e1 with ⟨h1,e1⟩ | ⟨h1,rfl⟩
 . rcases Ch e2 with ⟨_,e2⟩ | ⟨h2,_⟩
   . exact h i d' m' e1 e2
   . omega
 . rcases Ch e2 with ⟨h2,_⟩ | ⟨_,rfl⟩
   . omega
   . exact ⟨hd,hn⟩
theorem FrG.four {pc sh ed en : Addr} {H H7 : Hp} {o1 o2 o3 o4 : HO} (s : Same H H7) : FrG pc sh ed en H (upd (upd (upd (upd H7 pc o1) sh o2) ed o3) en o4) :=
 ((((FrG.of s).trans (FrG.up (.inl rfl))).trans (FrG.up (.inr (.inl rfl)))).trans (FrG.up (.inr (.inr (.inl rfl))))).trans (FrG.up (.inr (.inr (.inr rfl))))
theorem Uy (n : Int) (ms : Ms) : (A7 n ms).length <= ms.length := by
 unfold A7
 split
 . exact Nat.zero_le _
 . rw [List.length_map]; exact Nat.le_refl _
theorem Ng {n : Int} {ms : Ms} (h : nd ms) : nd (A7 n ms) := by
 unfold A7
 split
 . exact List.nodup_nil
 . exact Id h _
theorem An6 {a f p : Int} (a0 : 0 < a) (a1 : a < p) (f0 : 0 <= f) (f1 : f < p) (hp : p < 98) : -(10000 : Int) < -a * f /\ -a * f <= 0 := by
 have h1 : a * f <= 97 * 97 := Int.mul_le_mul (by omega) (by omega) f0 (by omega)
 have h2 : 0 <= a * f := Int.mul_nonneg (by omega) f0
 have e : -a * f = -(a * f) := Int.neg_mul a f
 omega
theorem lenF {f : Str} {v : V} {fs : List (Str × V)} {n : Nat} (h : fs.length <= n) : (putF f v fs).length <= n + 1 := Nat.le_trans (Ju f v fs) (by omega)
end Hb
namespace L2
open PySem PySem.Spec PyProof.Rows
theorem Au7 {t u : TS} {D : Ends} {σ : St} {H : Hp} (σ1 : St) (H1 : Hp) (ht : ∀ D' : Ends,D'.nx σ1 H1 -> t D' σ H) (h : u D σ1 H1) : tSeq t u D σ H := ht { D with nx := u D } h
end L2
namespace Hb
open PySem L2
theorem p6 {g : TG} {te : TE} {D : Addr} {Q : Hp -> Prop} {τ : St} {H : Hp} {K : W.Frag} {a b : Addr} {xs ys : List V} {n : Nat} (hn : xs.length = n /\ ys.length = n) (Pv : Nat -> List V -> St -> Hp -> Prop) (h0 : Pv 0 [] τ H) (hl : ∀ i zs τ H,i <= n -> Pv i zs τ H -> SqT K H a xs /\ SqT K H b ys)
 (hs : ∀ i x y zs τ H p,xs[i]? = some x -> ys[i]? = some y -> Pv i zs τ H -> H p = none -> g (.ref p) τ (upd H p (.tup [x,y])) fun τ2 H2 => te τ2 H2 fun y H4 => H4 D = some (.lst zs) /\ zs.length < sizeLine /\ Pv (i + 1) (zs ++ [y]) τ2 (upd H4 D (.lst (zs ++ [y]))))
 (hd : ∀ zs τ H,Pv n zs τ H -> Q H) : RunC (Ityp K a b) g tYes te D Q τ H := Ak5 hn Pv h0 hl (fun i x y zs τ H p e1 e2 q hp => hs i x y zs τ H p e1 e2 q hp) hd
section
variable {K : W.Frag} {CG : Addr} {H H' H1 H2 : Hp} {W : Addr -> Prop} {g pc sh ed en : Addr} {p : Int} {xs : List (List Int)} {es ss : List Ms} {bs : Ms}
theorem B5.le4 (x : B5 K CG H g pc sh ed en p xs es ss bs) : xs.length <= 1000 /\ ∀ y ∈ xs,y.length <= 4 := by
 have h1 := x.gw.n40
 refine ⟨by omega,fun y hy => ?_⟩
 have := Ee x.gw.shp y hy
 omega
end
end Hb
namespace Hb
open PySem L2
theorem A62 {α : Type} {l : List α} (h : l.length = 2) : ∃ x y,l = [x,y] := by
 match l,h with
 | [x,y],_ => exact ⟨x,y,rfl⟩
theorem Dz.split {p a u : Int} (hp : Dz p) (hu : ¬ p ∣ u) (h : p ∣ a * u) : p ∣ a := by
 have hg : Int.gcd u p = 1 := by
  have h1 : ((Int.gcd u p : Nat) : Int) ∣ p := Int.gcd_dvd_right ..
  have h2 : ((Int.gcd u p : Nat) : Int) ∣ u := Int.gcd_dvd_left ..
  have h0 : 0 < ((Int.gcd u p : Nat) : Int) := by
   have : Int.gcd u p ≠ 0 := fun z => by
    have := (Int.gcd_eq_zero_iff.mp z).2
    have := hp.two
    omega
   omega
  rcases hp.div h0 h1 with z | z
  . omega
  . rw [z] at h2; exact absurd h2 hu
 have hn : Nat.Coprime p.natAbs u.natAbs := by
  unfold Nat.Coprime
  rw [Nat.gcd_comm]
  exact hg
 have h3 : p.natAbs ∣ a.natAbs * u.natAbs := by rw [← Int.natAbs_mul]; exact Int.natAbs_dvd_natAbs.mpr h
 exact Int.natAbs_dvd_natAbs.mp (hn.dvd_of_dvd_mul_right h3)
theorem Xa {p : Int} {f : Nat -> Int} : ∀ {n : Nat},(∀ j,j < n -> p ∣ f j) -> p ∣ sumN f n
 | 0,_ => ⟨0,by simp [sumN]⟩
 | n + 1,h => Int.dvd_add (Xa fun j hj => h j (by omega)) (h n (by omega))
theorem Fq {p : Int} {f g : Nat -> Int} {n : Nat} (h : ∀ j,j < n -> p ∣ f j - g j) : p ∣ sumN f n - sumN g n := by
 have e : sumN f n - sumN g n = sumN (fun j => f j - g j) n := by
  have : sumN f n = sumN (fun j => (f j - g j) + g j) n := Ax fun k _ => by omega
  rw [this,J8]
  omega
 rw [e]
 exact Xa h
theorem v7 {p : Int} {f : Nat -> Int} {i : Nat} : ∀ {n : Nat},i < n -> (∀ j,j < n -> j ≠ i -> p ∣ f j) -> p ∣ sumN f n -> p ∣ f i
 | n + 1,hi,h,hs => by
   have hs : p ∣ sumN f n + f n := hs
   by_cases z : i = n
   . subst z
     have h1 : p ∣ sumN f i := Xa fun j hj => h j (by omega) (by omega)
     exact (Int.dvd_add_right h1).mp hs
   . have h1 : p ∣ f n := h n (by omega) (fun e => z e.symm)
     exact v7 (by omega) (fun j hj hn => h j (by omega) hn) ((Int.dvd_add_left h1).mp hs)
theorem Ac9 (q : List Int) (f : Int) : ∀ n,oftN q f n = sumN (fun i => sg i * ind (q.getD i 0) f) n
 | 0 => rfl
 | n + 1 => by
   have e := Ac9 q f n
   show (if q.getD n 0 = f then oftN q f n + 1 - 2 * ((n : Int) % 2) else oftN q f n) = sumN _ n + sg n * ind (q.getD n 0) f
   rw [← e]
   unfold ind sg
   by_cases h : q.getD n 0 = f
   . rw [if_pos h,if_pos h]; omega
   . rw [if_neg h,if_neg h]; omega
theorem u9 {xs : List (List Int)} (hs : Dl xs) {k : Nat} (hk : k < xs.length) (e : Int) : sumN (fun j => oft (xs.getD k []) (j : Int) * oft (xs.getD j []) e) xs.length = 0 := by
 have hq : xs[k]? = some (xs.getD k []) := by rw [List.getD_eq_getElem?_getD,List.getElem?_eq_getElem hk]; rfl
 have ht := A82 hs hq e
 have hf : Fits (xs.take k) (xs.getD k []) := hs k _ hq
 generalize xs.getD k [] = q at hq ht hf
 have hin : ∀ i,i < q.length -> 0 <= q.getD i 0 /\ (q.getD i 0).toNat < xs.length := fun i hi => by
  have hm := Ct (d := 0) hi
  obtain ⟨r,hr,_⟩ := hf.bel _ hm
  have := (List.getElem?_eq_some_iff.mp hr).1
  rw [List.length_take] at this
  exact ⟨hf.low _ hm,by omega⟩
 have e1 : sumN (fun j => oft q (j : Int) * oft (xs.getD j []) e) xs.length = sumN (fun j => sumN (fun i => sg i * ind (q.getD i 0) (j : Int) * oft (xs.getD j []) e) q.length) xs.length := Ax fun j _ => by
  show oftN q (j : Int) q.length * _ = _
  rw [Ac9,← No]
 rw [e1,J7]
 refine Eq.trans (Ax fun i hi => ?_) ht
 obtain ⟨h0,h1⟩ := hin i hi
 have e2 : sumN (fun j => sg i * ind (q.getD i 0) (j : Int) * oft (xs.getD j []) e) xs.length = sg i * sumN (fun j => (if j = (q.getD i 0).toNat then 1 else 0) * oft (xs.getD j []) e) xs.length := by
  rw [← E3]
  refine Ax fun j _ => ?_
  unfold ind
  by_cases z : j = (q.getD i 0).toNat
  . rw [if_pos z,if_pos (by omega)]; rw [Int.mul_one,Int.one_mul]
  . rw [if_neg z,if_neg (fun y => z (by omega))]; simp
 rw [e2,Hx,if_pos h1]
structure El (p : Int) (xs : List (List Int)) (es ss : List Ms) : Prop where
 own : ∀ (i : Nat) s,ss[i]? = some s -> getI s (i : Int) = 1
 lev : ∀ (i : Nat) s,ss[i]? = some s -> ∀ x ∈ Az s,(xs.getD x.toNat []).length - 1 = (xs.getD i []).length - 1
 bd : ∀ (i : Nat) s e,ss[i]? = some s -> es[i]? = some e -> ∀ x : Int,p ∣ sumN (fun j => getI s (j : Int) * oft (xs.getD j []) x) xs.length - getI e x
section
variable {p : Int} {xs : List (List Int)} {es ss : List Ms} {bs : Ms}
theorem T7 (x : Int) : getI [] x = 0 := by simp [getI,A0]
theorem span (s : Nat -> Int -> Int) (own : ∀ j : Nat,s j (j : Int) = 1) (out : ∀ (j : Nat) (x : Int),x < 0 \/ (j : Int) < x -> s j x = 0) : ∀ (m : Nat) (z : Int -> Int),(∀ x,x < 0 \/ (m : Int) <= x -> p ∣ z x) -> ∃ a : Nat -> Int,(∀ k,k + 1 = m -> a k = z (k : Int)) /\ ∀ x,p ∣ z x - sumN (fun j => a j * s j x) m
 | 0,z,hz => ⟨fun _ => 0,fun k h => by omega,fun x => by
    have h1 : p ∣ z x := hz x (by omega)
    have : sumN (fun j => (fun _ => (0 : Int)) j * s j x) 0 = 0 := rfl
    rw [this,Int.sub_zero]; exact h1⟩
 | m + 1,z,hz => by
   obtain ⟨a,_,h⟩ := span s own out m (fun x => z x - z (m : Int) * s m x) (fun x hx => by
    by_cases e : x = (m : Int)
    . subst e
      show p ∣ z (m : Int) - z (m : Int) * s m (m : Int)
      rw [own,Int.mul_one,Int.sub_self]
      exact Int.dvd_zero p
    . have hx2 : x < 0 \/ (m : Int) < x := by omega
      show p ∣ z x - z (m : Int) * s m x
      rw [out m x hx2,Int.mul_zero,Int.sub_zero]
      exact hz x (by omega))
   refine ⟨fun j => if j = m then z (m : Int) else a j,fun k hk => ?_,fun x => ?_⟩
   . have : k = m := by omega
     subst this
     exact if_pos rfl
   . have e : sumN (fun j => (fun j => if j = m then z (m : Int) else a j) j * s j x) (m + 1) = sumN (fun j => a j * s j x) m + z (m : Int) * s m x := by
      show sumN _ m + (if m = m then z (m : Int) else a m) * s m x = _
      rw [if_pos rfl]
      congr 1
      exact Ax fun j hj => by
       show (if j = m then z (m : Int) else a j) * s j x = _
       rw [if_neg (by omega)]
     rw [e]
     have := h x
     have e2 : z x - (sumN (fun j => a j * s j x) m + z (m : Int) * s m x) = z x - z (m : Int) * s m x - sumN (fun j => a j * s j x) m := by omega
     rw [e2]
     exact this
theorem free {p : Int} (hp : Dz p) {n m : Nat} (e : Nat -> Int -> Int) (top : Nat -> Int -> Prop) (a : Nat -> Int) (h1 : ∀ j t,j < m -> top j t -> 0 <= t /\ t < (n : Int) /\ ¬ p ∣ e j t) (h2 : ∀ j t x,top j t -> t < x -> e j x = 0) (h3 : ∀ i j t,top i t -> top j t -> i = j)
 (h4 : ∀ j,j < m -> (∃ t,top j t) \/ ∀ x,e j x = 0) (hz : ∀ y,p ∣ sumN (fun j => a j * e j y) m) : ∀ (d j : Nat) (t : Int),j < m -> top j t -> n - t.toNat <= d -> p ∣ a j
 | 0,j,t,hj,ht,hd => by
   obtain ⟨x0,x1,_⟩ := h1 j t hj ht
   omega
 | d + 1,j,t,hj,ht,hd => by
   obtain ⟨x0,x1,x2⟩ := h1 j t hj ht
   refine hp.split x2 (v7 (f := fun j => a j * e j t) hj (fun j' hj' hn => ?_) (hz t))
   show p ∣ a j' * e j' t
   rcases h4 j' hj' with ⟨t',ht'⟩ | h0
   . obtain ⟨y0,y1,_⟩ := h1 j' t' hj' ht'
     by_cases c : t' < t
     . rw [h2 j' t' t ht' c,Int.mul_zero]; exact Int.dvd_zero p
     . by_cases c2 : t' = t
       . subst c2; exact absurd (h3 _ _ _ ht' ht) hn
       . have := free hp e top a h1 h2 h3 h4 hz d j' t' hj' ht' (by omega)
         exact Int.dvd_trans this (Int.dvd_mul_right ..)
   . rw [h0,Int.mul_zero]; exact Int.dvd_zero p
theorem A73 {l : List Ms} {i : Nat} {m : Ms} (h : l[i]? = some m) : l.getD i [] = m := by rw [List.getD_eq_getElem?_getD,h]; rfl
theorem Pw {l : List Ms} {i : Nat} (h : i < l.length) : l[i]? = some (l.getD i []) := by rw [List.getD_eq_getElem?_getD,List.getElem?_eq_getElem h]; rfl
theorem A80 {i : Nat} {m : Ms} {b : Int} (g : J3 p xs es ss bs) (s : El p xs es ss) (hp : Dz p) (hi : es[i]? = some m) (tb : Top m b) : es[b.toNat]? = some [] := by
 have hil : i < xs.length := by rw [← g.le]; exact (List.getElem?_eq_some_iff.mp hi).1
 obtain ⟨okm,km⟩ := g.eok i m hi
 obtain ⟨b0,b1,_⟩ := km b tb.mem
 obtain ⟨lk,v0,v1⟩ := tb.look okm
 have hbl : b.toNat < xs.length := by omega
 have hes : es[b.toNat]? = some (es.getD b.toNat []) := Pw (by rw [g.le]; exact hbl)
 by_cases hz : es.getD b.toNat [] = []
 . rw [hes,hz]
 exfalso
 have hS : ∀ j,j < xs.length -> ss[j]? = some (ss.getD j []) := fun j hj => Pw (by rw [g.ls]; exact hj)
 have hE : ∀ j,j < xs.length -> es[j]? = some (es.getD j []) := fun j hj => Pw (by rw [g.le]; exact hj)
 obtain ⟨sf,hsf⟩ : ∃ sf : Nat -> Int -> Int,sf = fun j x => if j < xs.length then getI (ss.getD j []) x else if x = (j : Int) then 1 else 0 := ⟨_,rfl⟩
 have own : ∀ j : Nat,sf j (j : Int) = 1 := fun j => by
  rw [hsf]
  show (if j < xs.length then getI (ss.getD j []) (j : Int) else if (j : Int) = (j : Int) then 1 else 0) = 1
  by_cases h : j < xs.length
  . rw [if_pos h]; exact s.own j _ (hS j h)
  . rw [if_neg h,if_pos rfl]
 have out : ∀ (j : Nat) (x : Int),x < 0 \/ (j : Int) < x -> sf j x = 0 := fun j x hx => by
  rw [hsf]
  show (if j < xs.length then getI (ss.getD j []) x else if x = (j : Int) then 1 else 0) = 0
  by_cases h : j < xs.length
  . rw [if_pos h]
    refine B7 fun hk => ?_
    have := (g.sok j _ (hS j h)).2 x hk
    omega
  . rw [if_neg h,if_neg (by omega)]
 have zout : ∀ x,x < 0 \/ ((b.toNat + 1 : Nat) : Int) <= x -> p ∣ getI m x := fun x hx => by
  have : getI m x = 0 := B7 fun hk => by
   have h1 := tb.le x hk
   have h2 := (km x hk).1
   omega
  rw [this]; exact Int.dvd_zero p
 obtain ⟨a,ha,hsp⟩ := span (p := p) sf own out (b.toNat + 1) (getI m) zout
 have hab := ha b.toNat rfl
 rw [show ((b.toNat : Nat) : Int) = b by omega] at hab
 have hb0 : ∀ y,p ∣ sumN (fun x => getI m (x : Int) * oft (xs.getD x []) y) xs.length := fun y => by
  have e1 : p ∣ sumN (fun x => sumN (fun k => getI (ss.getD i []) (k : Int) * oft (xs.getD k []) (x : Int)) xs.length * oft (xs.getD x []) y) xs.length - sumN (fun x => getI m (x : Int) * oft (xs.getD x []) y) xs.length := Fq fun x _ => by
   have := s.bd i _ m (hS i hil) hi (x : Int)
   have e : sumN (fun k => getI (ss.getD i []) (k : Int) * oft (xs.getD k []) (x : Int)) xs.length * oft (xs.getD x []) y - getI m (x : Int) * oft (xs.getD x []) y = (sumN (fun k => getI (ss.getD i []) (k : Int) * oft (xs.getD k []) (x : Int)) xs.length - getI m (x : Int)) * oft (xs.getD x []) y := by rw [Int.sub_mul]
   rw [e]
   exact Int.dvd_trans this (Int.dvd_mul_right ..)
  have e2 : sumN (fun x => sumN (fun k => getI (ss.getD i []) (k : Int) * oft (xs.getD k []) (x : Int)) xs.length * oft (xs.getD x []) y) xs.length = 0 := by
   have e3 : sumN (fun x => sumN (fun k => getI (ss.getD i []) (k : Int) * oft (xs.getD k []) (x : Int)) xs.length * oft (xs.getD x []) y) xs.length = sumN (fun x => sumN (fun k => getI (ss.getD i []) (k : Int) * oft (xs.getD k []) (x : Int) * oft (xs.getD x []) y) xs.length) xs.length := Ax fun x _ => by rw [No]
   rw [e3,J7]
   have e4 : sumN (fun k => sumN (fun x => getI (ss.getD i []) (k : Int) * oft (xs.getD k []) (x : Int) * oft (xs.getD x []) y) xs.length) xs.length = sumN (fun _ => 0) xs.length := Ax fun k hk => by
    have e5 : sumN (fun x => getI (ss.getD i []) (k : Int) * oft (xs.getD k []) (x : Int) * oft (xs.getD x []) y) xs.length = getI (ss.getD i []) (k : Int) * sumN (fun x => oft (xs.getD k []) (x : Int) * oft (xs.getD x []) y) xs.length := by
     rw [← E3]
     exact Ax fun x _ => by rw [Int.mul_assoc]
    rw [e5,u9 g.shp hk,Int.mul_zero]
   rw [e4,J6]
  rw [e2,Int.zero_sub] at e1
  exact Int.dvd_neg.mp e1
 obtain ⟨ef,hef⟩ : ∃ ef : Nat -> Int -> Int,ef = fun j x => getI (es.getD j []) x := ⟨_,rfl⟩
 have hs0 : ∀ y,p ∣ sumN (fun j => a j * ef j y) (b.toNat + 1) := fun y => by
  have e1 : p ∣ sumN (fun x => getI m (x : Int) * oft (xs.getD x []) y) xs.length - sumN (fun x => sumN (fun j => a j * sf j (x : Int)) (b.toNat + 1) * oft (xs.getD x []) y) xs.length := Fq fun x _ => by
   rw [← Int.sub_mul]
   exact Int.dvd_trans (hsp (x : Int)) (Int.dvd_mul_right ..)
  have e2 := (Int.dvd_sub (hb0 y) e1)
  rw [show ∀ u v : Int,u - (u - v) = v from fun u v => by omega] at e2
  have e3 : sumN (fun x => sumN (fun j => a j * sf j (x : Int)) (b.toNat + 1) * oft (xs.getD x []) y) xs.length = sumN (fun j => a j * sumN (fun x => sf j (x : Int) * oft (xs.getD x []) y) xs.length) (b.toNat + 1) := by
   have e4 : sumN (fun x => sumN (fun j => a j * sf j (x : Int)) (b.toNat + 1) * oft (xs.getD x []) y) xs.length = sumN (fun x => sumN (fun j => a j * sf j (x : Int) * oft (xs.getD x []) y) (b.toNat + 1)) xs.length := Ax fun x _ => by rw [No]
   rw [e4,J7]
   refine Ax fun j _ => ?_
   rw [← E3]
   exact Ax fun x _ => by rw [Int.mul_assoc]
  rw [e3] at e2
  have e5 : p ∣ sumN (fun j => a j * sumN (fun x => sf j (x : Int) * oft (xs.getD x []) y) xs.length) (b.toNat + 1) - sumN (fun j => a j * ef j y) (b.toNat + 1) := Fq fun j hj => by
   have hjl : j < xs.length := by omega
   rw [← Int.mul_sub]
   have e6 : sumN (fun x => sf j (x : Int) * oft (xs.getD x []) y) xs.length = sumN (fun x => getI (ss.getD j []) (x : Int) * oft (xs.getD x []) y) xs.length := Ax fun x _ => by
    rw [hsf]
    show (if j < xs.length then getI (ss.getD j []) (x : Int) else if (x : Int) = (j : Int) then 1 else 0) * _ = _
    rw [if_pos hjl]
   rw [e6,hef]
   exact Int.dvd_trans (s.bd j _ _ (hS j hjl) (hE j hjl) y) (Int.dvd_mul_left ..)
  have e7 := Int.dvd_sub e2 e5
  rw [show ∀ u v : Int,u - (u - v) = v from fun u v => by omega] at e7
  exact e7
 obtain ⟨t,tt⟩ := As8 hz
 have hfin := free hp (n := xs.length) ef (fun j t => j < xs.length /\ Top (es.getD j []) t) a (m := b.toNat + 1) (fun j t hj ⟨hjl,ht⟩ => ?_) (fun j t x ⟨hjl,ht⟩ hx => ?_) (fun i j t ⟨hi',ht⟩ ⟨hj',ht'⟩ => ?_) (fun j hj => ?_) hs0 _ b.toNat t (by omega) ⟨hbl,tt⟩ (Nat.le_refl _)
 . rw [hab] at hfin
   exact ndvd v0 v1 hfin
 . obtain ⟨ok,kk⟩ := g.eok j _ (hE j hjl)
   obtain ⟨k0,k1,_⟩ := kk t ht.mem
   obtain ⟨_,u0,u1⟩ := ht.look ok
   rw [hef]
   exact ⟨k0,by omega,ndvd u0 u1⟩
 . rw [hef]
   exact B7 fun hk => by have := ht.le x hk; omega
 . have h1 := (g.bls t (i : Int)).mpr ⟨_,_,rfl,hE _ hi',ht⟩
   have h2 := (g.bls t (j : Int)).mpr ⟨_,_,rfl,hE _ hj',ht'⟩
   rw [h1] at h2
   have := Option.some.inj h2
   omega
 . by_cases hn : es.getD j [] = []
   . right
     intro x
     rw [hef]
     show getI (es.getD j []) x = 0
     rw [hn]
     exact T7 x
   . left
     obtain ⟨t',ht'⟩ := As8 hn
     exact ⟨t',by omega,ht'⟩
end
end Hb
namespace Hb
open PySem L2
structure Nf (p : Int) (xs : List (List Int)) (q : List Int) (ms me : Ms) : Prop where
 own : getI ms (xs.length : Int) = 1
 lev : ∀ x ∈ Az ms,x = (xs.length : Int) \/ (x < (xs.length : Int) /\ (xs.getD x.toNat []).length - 1 = q.length - 1)
 bd : ∀ y : Int,p ∣ sumN (fun j => getI ms (j : Int) * oft ((xs ++ [q]).getD j []) y) (xs.length + 1) - getI me y
section
variable {p : Int} {xs : List (List Int)} {q : List Int} {es ss : List Ms} {bs ms me : Ms}
theorem Yj (a p : Int) : p ∣ a - a % p := by
 have := Int.mul_ediv_add_emod a p
 exact ⟨a / p,by omega⟩
theorem Ah4 (k x : Int) : getI [(k,1)] x = if x = k then 1 else 0 := by
 unfold getI A0
 by_cases h : x = k
 . subst h; simp
 . rw [if_neg h]
   have : ¬ k = x := fun z => h z.symm
   simp [this]
theorem Nf.first (hq : ∀ f ∈ q,0 <= f) : Nf p xs q [((xs.length : Int),1)] (modI p (addF [] q 1)) := by
 refine ⟨by rw [Ah4,if_pos rfl],fun x hx => ?_,fun y => ?_⟩
 . simp [Az] at hx
   exact .inl hx
 . have e : sumN (fun j => getI [((xs.length : Int),1)] (j : Int) * oft ((xs ++ [q]).getD j []) y) (xs.length + 1) = oft q y := by
    have e2 : sumN (fun j => getI [((xs.length : Int),1)] (j : Int) * oft ((xs ++ [q]).getD j []) y) (xs.length + 1) = sumN (fun j => (if j = xs.length then 1 else 0) * oft ((xs ++ [q]).getD j []) y) (xs.length + 1) := Ax fun j _ => by
     rw [Ah4]
     by_cases h : j = xs.length
     . rw [if_pos h,if_pos (by omega)]
     . rw [if_neg h,if_neg (by omega)]
    rw [e2,Hx,if_pos (by omega),Nl]
   have nad : nd (addF [] q 1) := Tv (ms := []) (by simp [nd]) q 1 q.length
   have g : getI (addF [] q 1) y = oft q y := by
    have := V2 [] q 1 y q.length
    rw [T7,Int.zero_add,Int.mul_one] at this
    exact this
   rw [e,G9 nad,g]
   exact Yj _ _
theorem Nf.step {i : Nat} {n : Int} {s e : Ms} (hp : 2 <= p) (h : Nf p xs q ms me) (g : J3 p xs es ss bs) (sh : El p xs es ss) (hs : ss[i]? = some s) (he : es[i]? = some e) (o1 : OkM p ms) (o2 : OkM p me) (hl : (xs.getD i []).length - 1 = q.length - 1) :
 Nf p xs q (modI p (Dg ms (A7 n s))) (modI p (Dg me (A7 n e))) := by
 have hil : i < xs.length := by rw [← g.ls]; exact (List.getElem?_eq_some_iff.mp hs).1
 obtain ⟨oS,kS⟩ := g.sok i s hs
 obtain ⟨oE,kE⟩ := g.eok i e he
 obtain ⟨n1,_,_,g1⟩ := Js (A7 n s) ms o1.nd o1.nz (Ng oS.nd)
 obtain ⟨n2,_,_,g2⟩ := Js (A7 n e) me o2.nd o2.nz (Ng oE.nd)
 have c1 := (Wf (p := p) (n := n) (by omega) o1 oS).2
 have s0 : getI s (xs.length : Int) = 0 := B7 fun hk => by have := kS _ hk; omega
 refine ⟨?_,fun x hx => ?_,fun y => ?_⟩
 . rw [G9 n1,g1,Hl,h.own,s0,Int.mul_zero,Int.add_zero]
   exact Int.emod_eq_of_lt (by decide) (by omega)
 . rcases c1 x hx with z | z
   . exact h.lev x z
   . have k1 := kS x z
     have l1 := sh.lev i s hs x z
     exact .inr ⟨by omega,by omega⟩
 . have a1 := h.bd y
   have a2 := sh.bd i s e hs he y
   have e0 : sumN (fun j => getI s (j : Int) * oft ((xs ++ [q]).getD j []) y) (xs.length + 1) = sumN (fun j => getI s (j : Int) * oft (xs.getD j []) y) xs.length := by
    show sumN _ xs.length + getI s (xs.length : Int) * _ = _
    rw [s0,Int.zero_mul,Int.add_zero]
    exact Ax fun j hj => by rw [C7 hj]
   have e1 : p ∣ sumN (fun j => (getI ms (j : Int) + n * getI s (j : Int)) * oft ((xs ++ [q]).getD j []) y) (xs.length + 1) - sumN (fun j => getI (modI p (Dg ms (A7 n s))) (j : Int) * oft ((xs ++ [q]).getD j []) y) (xs.length + 1) := Fq fun j _ => by
    rw [← Int.sub_mul,G9 n1,g1,Hl]
    exact Int.dvd_trans (Yj _ _) (Int.dvd_mul_right ..)
   have e2 : sumN (fun j => (getI ms (j : Int) + n * getI s (j : Int)) * oft ((xs ++ [q]).getD j []) y) (xs.length + 1) = sumN (fun j => getI ms (j : Int) * oft ((xs ++ [q]).getD j []) y) (xs.length + 1) + n * sumN (fun j => getI s (j : Int) * oft (xs.getD j []) y) xs.length := by
    rw [← e0,← E3,← J8]
    exact Ax fun j _ => by rw [Int.add_mul,Int.mul_assoc]
   rw [e2] at e1
   have e3 : p ∣ (getI me y + n * getI e y) - getI (modI p (Dg me (A7 n e))) y := by
    rw [G9 n2,g2,Hl]
    exact Yj _ _
   generalize sumN (fun j => getI (modI p (Dg ms (A7 n s))) (j : Int) * oft ((xs ++ [q]).getD j []) y) (xs.length + 1) = A at e1 ⊢
   generalize sumN (fun j => getI ms (j : Int) * oft ((xs ++ [q]).getD j []) y) (xs.length + 1) = B at a1 e1
   generalize sumN (fun j => getI s (j : Int) * oft (xs.getD j []) y) xs.length = C at a2 e1
   generalize getI (modI p (Dg me (A7 n e))) y = E at e3 ⊢
   have a3 : p ∣ n * (C - getI e y) := Int.dvd_trans a2 (Int.dvd_mul_left ..)
   rw [Int.mul_sub] at a3
   have t := Int.dvd_add (Int.dvd_add (Int.dvd_sub (Int.dvd_add a1 a3) (Int.dvd_refl p)) (Int.dvd_refl p)) e3
   have t2 := Int.dvd_sub t e1
   have : B - getI me y + (n * C - n * getI e y) - p + p + (getI me y + n * getI e y - E) - (B + n * C - A) = A - E := by omega
   rw [this] at t2
   exact t2
theorem El.nil : El p [] [] [] := ⟨fun i s h => by simp at h,fun i s h => by simp at h,fun i s e h => by simp at h⟩
theorem El.grow (g : J3 p xs es ss bs) (sh : El p xs es ss) (h : Nf p xs q ms me) : El p (xs ++ [q]) (es ++ [me]) (ss ++ [ms]) := by
 refine ⟨fun i s hs => ?_,fun i s hs x hx => ?_,fun i s e hs he y => ?_⟩
 . rcases Ch hs with ⟨_,hs⟩ | ⟨rfl,rfl⟩
   . exact sh.own i s hs
   . rw [g.ls]; exact h.own
 . rcases Ch hs with ⟨hl,hs⟩ | ⟨rfl,rfl⟩
   . rw [g.ls] at hl
     have k1 := (g.sok i s hs).2 x hx
     rw [C7 (by omega),C7 hl]
     exact sh.lev i s hs x hx
   . rw [g.ls,Nl]
     rcases h.lev x hx with z | ⟨z1,z2⟩
     . subst z
       rw [show ((xs.length : Nat) : Int).toNat = xs.length by omega,Nl]
     . by_cases h0 : x < 0
       . rw [show x.toNat = 0 by omega] at z2 ⊢
         by_cases hx0 : 0 < xs.length
         . rw [C7 hx0]; exact z2
         . have : xs = [] := List.length_eq_zero_iff.mp (by omega)
           subst this
           rfl
       . rw [C7 (by omega)]; exact z2
 . rw [List.length_append,show xs.length + [q].length = xs.length + 1 from rfl]
   rcases Ch hs with ⟨hl,hs⟩ | ⟨hl,rfl⟩
   . rcases Ch he with ⟨_,he⟩ | ⟨hl2,_⟩
     . have s0 : getI s (xs.length : Int) = 0 := B7 fun hk => by have := (g.sok i s hs).2 _ hk; rw [g.ls] at hl; omega
       have e0 : sumN (fun j => getI s (j : Int) * oft ((xs ++ [q]).getD j []) y) (xs.length + 1) = sumN (fun j => getI s (j : Int) * oft (xs.getD j []) y) xs.length := by
        show sumN _ xs.length + getI s (xs.length : Int) * _ = _
        rw [s0,Int.zero_mul,Int.add_zero]
        exact Ax fun j hj => by rw [C7 hj]
       rw [e0]
       exact sh.bd i s e hs he y
     . rw [g.ls] at hl; rw [g.le] at hl2; omega
   . rcases Ch he with ⟨hl2,_⟩ | ⟨_,rfl⟩
     . rw [g.ls] at hl; rw [g.le] at hl2; omega
     . exact h.bd y
end
end Hb
namespace L2
open PySem PySem.Spec PyProof.Rows
section
variable {prog : Program} {w : World} {A : Around} {R : Result -> Shared -> Prop}
theorem Af3 {d : Value} {I S : Addr} {fp : List Addr} {n : Nat} {P : Nat -> Value -> Prop} {St : Nat -> Heap -> Prop} (W : Walks prog w A.in1 I fp [I] n P St) (hSf : S ∉ fp) (hSI : S ≠ I) (ks : List Int) (hn : ks.length = n) (hP : ∀ i v,P i v -> ∃ x t,ks[i]? = some x /\ v = .int x t) :
 ∀ (k i : Nat) (s : Shared) (c : Nat) (best : Array Value),n - i = k -> i <= n -> St i s.heap -> s.heap.get? S = some { cls := .type "list",dict := none,data := .seq best c,slots := #[] } →
 ((i = 0 /\ best = #[]) \/ ∃ m t,best = #[.int m t,.int m t] /\ 0 < i /\ m ∈ ks.take i /\ ∀ x ∈ ks.take i,x <= m) →
 (∀ v h' tk,((n = 0 /\ v = d) \/ ∃ m t,v = .int m t /\ m ∈ ks /\ ∀ x ∈ ks,x <= m) -> (∀ b o,b ≠ I -> b ≠ S -> s.heap.get? b = some o -> h'.get? b = some o) -> R (.ok (.ret v)) { s with heap := h',toks := tk }) →
 codeAny (model prog w) A (.builtin "max.loop" ⟨[.ref I,.none,.ref S],[(Str.ofString "default",d)]⟩) R s := by
 have hname : (toString "max" ++ toString ".loop" : String) = "max.loop" := by decide
 intro k
 induction k with
 | zero =>
   intro i s c best hk hi hst hS hb hR
   have hin : i = n := by omega
   subst hin
   refine codeAny_builtin PySem.F.entry_max_loop ?_; rw [Around.under_plainId PySem.F.plain_max_loop _]
   show wpAny _ A.in1 (seqItems? (.ref S) >>= _) _ _ s; refine wpAny_bind (wpAny_seqItems hS rfl ?_)
   show wpAny _ A.in1 (tryCatch (pyNext (.ref I)) _ >>= _) _ _ s; skip
   refine wpAny_bind (wpAny_tryCatch (W.done s _ _ hst fun h' tk hk' => ?_))
   have hS' := hk' S _ (by simpa using hSI) hS
   rcases hb with ⟨h0,rfl⟩ | ⟨m,t,rfl,_,hm1,hm2⟩
   . refine wpAny_bind (wpAny_rule (wpAny_pure ?_))
     exact hR d h' tk (.inl ⟨h0,rfl⟩) fun b o hbI _ e => hk' b o (by simpa using hbI) e
   . show wpAny _ A.in1 (updateSeq S (fun _ => #[]) >>= _) _ _ _
     refine wpAny_bind ?_
     refine wpAny_updateSeq hS' rfl (wpAny_bind (wpAny_letGo (wpAny_pure ?_)))
     rw [← hn,List.take_length] at hm1 hm2
     exact hR _ _ tk (.inr ⟨m,t,rfl,hm1,hm2⟩) fun b o hbI hbS e => (Heap.get?_update_other _ _ (Ne.symm hbS)).trans (hk' b o (by simpa using hbI) e)
 | succ k ih =>
   intro i s c best hk hi hst hS hb hR
   have hlt : i < n := by omega
   refine codeAny_builtin PySem.F.entry_max_loop ?_; rw [Around.under_plainId PySem.F.plain_max_loop _]
   show wpAny _ A.in1 (seqItems? (.ref S) >>= _) _ _ s; refine wpAny_bind (wpAny_seqItems hS rfl ?_)
   show wpAny _ A.in1 (tryCatch (pyNext (.ref I)) _ >>= _) _ _ s; skip
   refine wpAny_bind (wpAny_tryCatch (W.item i s _ _ hlt hst fun v h' tk hPv hst' hk' => ?_))
   have hS' := hk' S _ (by simpa using hSI) hS
   obtain ⟨n1,t1,hx,rfl⟩ := hP i v hPv
   have htk : ks.take (i + 1) = ks.take i ++ [n1] := by rw [List.take_succ,hx]; rfl
   have upS : ∀ f : Array Value -> Array Value,St (i + 1) (h'.update S (Obj.mapSeq f)) := fun f => W.frame _ _ _ hst' fun b hb o e => (Heap.get?_update_other _ _ (fun z : S = b => hSf (by rw [z]; exact hb))).trans e
   have old : ∀ (f : Array Value -> Array Value) (b : Addr) (o : Obj),b ≠ I -> b ≠ S -> s.heap.get? b = some o -> (h'.update S (Obj.mapSeq f)).get? b = some o := fun f b o hbI hbS e => (Heap.get?_update_other _ _ (Ne.symm hbS)).trans (hk' b o (by simpa using hbI) e)
   rcases hb with ⟨h0,rfl⟩ | ⟨n2,t2,rfl,hi0,hm1,hm2⟩
   . show wpAny _ A.in1 (updateSeq S (fun _ => #[.int n1 t1,.int n1 t1]) >>= _) _ _ _
     refine wpAny_bind ?_
     refine wpAny_updateSeq hS' rfl ?_
     rw [hname]
     subst h0
     refine wpAny_pure ⟨plainId_quiet PySem.F.plain_max_loop _,ih 1 _ _ #[.int n1 t1,.int n1 t1] (by omega) hlt (upS _) (Heap.get?_update_self _ hS' rfl) (.inr ⟨n1,t1,rfl,by omega,by rw [htk]; simp,fun x hx' => ?_⟩) fun v'' h'' tk' a1 kk => ?_⟩
     . rw [htk] at hx'
       simp at hx'
       omega
     . exact hR v'' h'' tk' a1 fun b o hbI hbS e => kk b o hbI hbS (old _ b o hbI hbS e)
   . show wpAny _ A.in1 (tryCatch (holding [.int n1 t1,.int n1 t1] (richCompare .Gt (.int n1 t1) (.int n2 t2) >>= _)) _ >>= _) _ _ _
     refine wpAny_bind (wpAny_tryCatch (wpAny_holding (wpAny_bind (CmpOf.ints_gt (prog := prog) (w := w) (A := A.in1) (P := fun i v => ∃ t,v = .int (if i = 0 then n1 else n2) t) (fun i => if i = 0 then n1 else n2) (fun i v h => h) 0 1 _ _ _ _ _ ⟨t1,rfl⟩ ⟨t2,rfl⟩ ?_))))
     refine wpAny_bind (wpAny_holding (wpAny_truthy_bool ?_))
     refine wpAny_bind (wpAny_letGo (wpAny_pure ?_))
     split
     . next hgt =>
       have hgt' : n2 < n1 := by simpa using hgt
       refine wpAny_bind ?_
       refine wpAny_updateSeq hS' rfl (wpAny_bind (wpAny_letGo ?_)); rw [hname]
       refine wpAny_pure ⟨plainId_quiet PySem.F.plain_max_loop _,ih (i + 1) _ _ #[.int n1 t1,.int n1 t1] (by omega) hlt (upS _) (Heap.get?_update_self _ hS' rfl) (.inr ⟨n1,t1,rfl,by omega,by rw [htk]; simp,fun x hx' => ?_⟩) fun v'' h'' tk' a1 kk => ?_⟩
       . rw [htk] at hx'
         rcases List.mem_append.mp hx' with h1 | h1
         . have := hm2 x h1; omega
         . simp at h1; omega
       . exact hR v'' h'' tk' a1 fun b o hbI hbS e => kk b o hbI hbS (old _ b o hbI hbS e)
     . next hgt =>
       have hgt' : n1 <= n2 := by simpa using hgt
       refine wpAny_bind (wpAny_letGo ?_); rw [hname]
       refine wpAny_pure ⟨plainId_quiet PySem.F.plain_max_loop _,ih (i + 1) _ _ #[.int n2 t2,.int n2 t2] (by omega) hlt hst' hS' (.inr ⟨n2,t2,rfl,by omega,by rw [htk]; simp [hm1],fun x hx' => ?_⟩) fun v'' h'' tk' a1 kk => ?_⟩
       . rw [htk] at hx'
         rcases List.mem_append.mp hx' with h1 | h1
         . exact hm2 x h1
         . simp at h1; omega
       . exact hR v'' h'' tk' a1 fun b o hbI hbS e => kk b o hbI hbS (hk' b o (by simpa using hbI) e)
theorem maxG {ks : List Int} {l : Addr} {d : Value} {items : Array Value} {s : Shared} {E : Value -> Shared -> Prop} {Q : Value -> Shared -> Prop} (hh : A.handled = none) (hls : s.heap.IsList l items) (hks : ks.length = items.size) (hint : ∀ (i : Nat) (v : Value),items.toList[i]? = some v -> ∃ (n : Int) (t : Nat),ks[i]? = some n /\ v = Value.int n t)
 (hQ : ∀ v h' tk,((items.size = 0 /\ v = d) \/ ∃ m t,v = .int m t /\ m ∈ ks /\ ∀ x ∈ ks,x <= m) -> (∀ b o,s.heap.get? b = some o -> h'.get? b = some o) -> Q v { s with heap := h',toks := tk }) :
 wpAny (model prog w) A (call (.builtin "max") [.ref l] [(Str.ofString "default",d)]) Q E s := by
 have hname : (toString "max" ++ toString ".loop" : String) = "max.loop" := by decide
 obtain ⟨ol,hol,_⟩ := id hls
 have hll : l < s.heap.objs.size := Heap.lt_size hol
 refine PyProof.Rows.kmk_tree PySem.F.kind_max PySem.F.plain_max PySem.F.entry_max (Al9 _ _) ?_
 show wpAny _ A.in1 (Builtin.Builtins.bindParams "max" ["key","default"] 0 ⟨[],[(Str.ofString "default",d)]⟩ >>= _) _ _ s
 refine wpAny_bind (wpAny_of_eq (show Builtin.Builtins.bindParams "max" ["key","default"] 0 ⟨[],[(Str.ofString "default",d)]⟩ = pure [none,some d] from rfl) ?_)
 refine wpAny_bind (wpAny_pure ?_)
 refine wpAny_bind (wpAny_pyIter_list hls ?_)
 refine wpAny_bind (wpAny_newList ?_ (Nat.zero_le _))
 rw [hname]
 have hS : (s.heap.push { cls := .type "list_iterator",data := .fields #[.ref l,.int 0 0] }).objs.size = s.heap.objs.size + 1 := Heap.size_push ..
 have hSz : (s.heap.objs.size + 1 : Nat) ≠ s.heap.objs.size := Nat.succ_ne_self _
 have hSl : (s.heap.objs.size + 1 : Nat) ≠ l := Nat.ne_of_gt (Nat.lt_succ_of_lt hll)
 refine wpAny_pure ⟨plainId_quiet PySem.F.plain_max_loop _,?_⟩
 have W := Walks.list (prog := prog) (w := w) (A := A.in1) hh s.heap.objs.size l (Nat.ne_of_lt hll) items
 refine Af3 (I := s.heap.objs.size) (S := (s.heap.push { cls := .type "list_iterator",data := .fields #[.ref l,.int 0 0] }).objs.size) W ?_ (by rw [hS]; exact hSz) ks hks (fun i v hv => hint i v (by simpa using hv)) _ 0 _ _ #[] rfl (Nat.zero_le _) ?_ (Heap.get?_push_size _ rfl) (.inl ⟨rfl,rfl⟩) fun v h' tk hv kk => ?_
 . rw [hS]
   simp
   exact hSl
 . exact ⟨⟨_,Heap.get?_push_of_some _ (Heap.get?_push_size _ rfl),rfl,rfl⟩,(hls.push _).push _⟩
 . refine hQ v h' tk hv fun b o e => ?_
   have hb := Heap.lt_size e
   exact kk b o (Nat.ne_of_lt hb) (by rw [hS]; exact Nat.ne_of_lt (Nat.lt_succ_of_lt hb)) (Heap.get?_push_of_some _ (Heap.get?_push_of_some _ e))
end
def tMaxG (K : W.Frag) (ta : TA) (td : TE) : TE := fun σ H Q => ta σ H fun xs H1 => td σ H1 fun y H2 => ∃ (a : Addr) (ns : List Int) (i : Int),xs = [.ref a] /\ SqL K H2 a (ns.map V.int) /\ y = .int i /\ ∀ m,((ns = [] /\ m = i) \/ (m ∈ ns /\ ∀ x ∈ ns,x <= m)) -> Q (.int m) H2
theorem Aw9 {X : Cx} {K : W.Frag} {e d : Expr} {ta : TA} {td : TE} {p kp pos : Pos} (hc : X.calm = true) (hg : Gl X "max") (hm : X.mg "max" = none) (ha : PA X [e] ta) (hd : PE X d td) (hK : X.K = K := by rfl)
 (he : backTo pos (starEach (e :: []) X.env) = (false,eval e X.env) :: backTo pos (starEach [] X.env) := by rfl)
 (hplain : (backTo pos (starEach (e :: []) X.env)).any (·.1) = false := by rfl) :
 PE X (.Call (.Name "max" p) [e] [⟨some "default",d,kp⟩] pos) (tMaxG K ta td) := by
 subst hK
 intro pins s σ H Q I h
 refine wpAny_Call_Name_kw (Jc I hg hm Fl ?_)
 refine callWith_kw (thn (ha pos pins s σ H _ I h) fun us s1 ⟨vs,H1,I1,r1,q1⟩ => ?_) he hplain
 refine kws_cons (thn (hd pins s1 σ H1 _ I1 q1) fun v s2 ⟨y,H2,I2,r2,q2⟩ => kws_nil ?_)
 obtain ⟨a,ns,i,rfl,hq,rfl,q⟩ := q2
 obtain ⟨u,rfl,ru⟩ := So r1
 cases ru
 obtain ⟨t,rfl⟩ := r2
 obtain ⟨its,rv,ht,_⟩ := I2.list hq
 have hl := rv.length
 rw [List.length_map] at hl
 refine maxG (ks := ns) (I2.ok.hd hc) ht.isList (by simpa using hl) (fun j v hv => ?_) fun v h' tk hv kk => ?_
 . have hv : its[j]? = some v := by simpa using hv
   have hjl : j < ns.length := by
    have h1 := (List.getElem?_eq_some_iff.mp hv).1
    omega
   obtain ⟨w',hw,rw'⟩ := rv.get (show (ns.map V.int)[j]? = some (.int ns[j]) by rw [List.getElem?_map,List.getElem?_eq_getElem hjl]; rfl)
   rw [hv] at hw
   cases hw
   obtain ⟨t',e'⟩ := rw'
   exact ⟨ns[j],t',List.getElem?_eq_getElem hjl,e'⟩
 . rcases hv with ⟨h0,rfl⟩ | ⟨m,t',rfl,hm1,hm2⟩
   . exact ⟨.int i,H2,I2.kept kk,⟨_,rfl⟩,q i (.inl ⟨List.length_eq_zero_iff.mp (by rw [hl]; simpa using h0),rfl⟩)⟩
   . exact ⟨.int m,H2,I2.kept kk,⟨_,rfl⟩,q m (.inr ⟨hm1,hm2⟩)⟩
def Au9 (td : TE) : TE := fun σ H Q => td σ H fun x H1 => ∃ (a : Addr) (kvs : List (Key × V)),x = .ref a /\ H1 a = some (.dK kvs) /\ Q .non (upd H1 a (.dK []))
theorem Ab7 {X : Cx} {o : Expr} {td : TE} {apos cpos : Pos} (ho : PE X o td) (hbase : attributeBase o "clear" X.env (eval o X.env) = eval o X.env := by rfl) (hline : (apos.endLine == cpos.line) = true := by rfl) : PE X (.Call (.Attribute o "clear" apos) [] [] cpos) (Au9 td) := by
 intro pins s σ H Q I h
 refine wpAny_Call_method0_late hbase hline (thn (ho pins s σ H _ I h) fun v s1 ⟨x,H1,I1,r1,a,kvs,ex,ha,q1⟩ => ?_)
 subst ex
 obtain rfl : v = Value.ref a := r1
 obtain ⟨t1,t2,_⟩ := Zf I1 (.inl ⟨kvs,.inl ha⟩)
 exact ⟨"dict","dict.clear",PySem.F.plainAttrs_dict,PySem.F.slot_dict_clear,PySem.F.type_dict_clear,t1,t2,Calls.callWith_builtin rfl (PySem.evalArgs_none (A06 I1 ha fun s' I' => ⟨.non,_,I',rfl,q1⟩))⟩
end L2
namespace Hb
open PySem L2
def D6 (es : List Ms) (n : Nat) : List Nat := (List.range n).filter fun i => (es.getD i []).isEmpty
theorem Sb (es : List Ms) (n : Nat) : D6 es (n + 1) = if es.getD n [] = [] then D6 es n ++ [n] else D6 es n := by
 unfold D6
 rw [List.range_succ,List.filter_append]
 by_cases h : es.getD n [] = []
 . rw [if_pos h,List.filter_cons_of_pos (by simpa using h)]
   rfl
 . rw [if_neg h,List.filter_cons_of_neg (by simpa using h)]
   simp
theorem Ps (es : List Ms) (n : Nat) : (D6 es n).length <= n := by
 unfold D6
 have := List.length_filter_le (fun i => (es.getD i []).isEmpty) (List.range n)
 simpa using this
theorem Wr {es : List Ms} {n i : Nat} : i ∈ D6 es n ↔ i < n /\ es.getD i [] = [] := by
 unfold D6
 rw [List.mem_filter,List.mem_range]
 simp
def endV (bs : Ms) (i : Int) : V := match A0 bs i with
 | some e => .int e
 | none => .non
def endD (bs : Ms) (i : Int) : L2.D := match A0 bs i with
 | some e => .int e
 | none => .non
theorem Aa3 {K : W.Frag} {H : Hp} (bs : Ms) (i : Int) : Rep K H (endV bs i) (endD bs i) := by
 unfold endV endD
 cases A0 bs i <;> rfl
theorem Ah5 (bs : Ms) (i : Int) : ((A0 bs i).map V.int).getD .non = endV bs i := by
 unfold endV
 cases A0 bs i <;> rfl
theorem Ai5 {bs cs : Ms} {i : Int} (h : A0 bs i = A0 cs i) : endD bs i = endD cs i := by unfold endD; rw [h]
def Fb (bs : Ms) (i : Nat) : L2.D := .tup [.int (i : Int),endD bs (i : Int)]
def Gk (es : List Ms) (bs : Ms) (n : Nat) : List L2.D := (D6 es n).map (Fb bs)
abbrev Kj (es : List Ms) (bs : Ms) : List L2.D := Gk es bs es.length
theorem b9 (es : List Ms) (bs : Ms) (n : Nat) : (Gk es bs n).length <= n := by
 unfold Gk; rw [List.length_map]; exact Ps es n
theorem Ap2 (bs : Ms) (i : Nat) : imm (Fb bs i) = true := by
 unfold Fb endD
 cases A0 bs (i : Int) <;> rfl
theorem Lr (bs : Ms) : ∀ l : List Nat,imms (l.map (Fb bs)) = true
 | [] => rfl
 | i :: l => by
   show (imm (Fb bs i) && imms (l.map (Fb bs))) = true
   rw [Ap2,Lr bs l]
   rfl
theorem Zb (bs : Ms) (i : Nat) : dep (Fb bs i) <= 2 := by
 unfold Fb endD
 cases A0 bs (i : Int) <;> simp [dep,deps]
theorem Ru (bs : Ms) : ∀ l : List Nat,deps (l.map (Fb bs)) <= 2
 | [] => by simp [deps]
 | i :: l => by
   have h1 := Zb bs i
   have h2 := Ru bs l
   simp only [List.map_cons,deps]
   omega
def AnsE (me : Ms) (r : V) : Prop := (me = [] /\ r = .non) \/ ∃ b,Top me b /\ r = .int b
def AnsL (es : List Ms) (rs : List V) : Prop := rs.length = es.length /\ ∀ (i : Nat) m r,es[i]? = some m -> rs[i]? = some r -> AnsE m r
theorem AnsL.snoc {es : List Ms} {rs : List V} {me : Ms} {r : V} (h : AnsL es rs) (hr : AnsE me r) : AnsL (es ++ [me]) (rs ++ [r]) := by
 refine ⟨by simp [h.1],fun i m r' e1 e2 => ?_⟩
 rcases Ch e1 with ⟨h1,e1⟩ | ⟨h1,rfl⟩
 . rcases Ch e2 with ⟨_,e2⟩ | ⟨h2,_⟩
   . exact h.2 i m r' e1 e2
   . rw [h.1] at h2; omega
 . rcases Ch e2 with ⟨h2,_⟩ | ⟨_,rfl⟩
   . rw [h.1] at h2; omega
   . exact hr
def sumP : Ms -> (Int -> Int) -> Int
 | [],_ => 0
 | q :: s,f => q.2 * f q.1 + sumP s f
theorem Uz (q : Int × Int) (f : Int -> Int) : ∀ s : Ms,sumP (s ++ [q]) f = sumP s f + q.2 * f q.1
 | [] => by simp [sumP]
 | r :: s => by
   have := Uz q f s
   show r.2 * f r.1 + sumP (s ++ [q]) f = r.2 * f r.1 + sumP s f + _
   rw [this]
   omega
theorem v9 {s : Ms} {i : Nat} {q : Int × Int} (f : Int -> Int) (h : s[i]? = some q) : sumP (s.take (i + 1)) f = sumP (s.take i) f + q.2 * f q.1 := by
 rw [List.take_succ,h]
 exact Uz q f _
theorem Ar3 {k v : Int} {s : Ms} (x : Int) : getI ((k,v) :: s) x = if x = k then v else getI s x := by
 unfold getI A0
 by_cases h : x = k
 . subst h; simp
 . rw [if_neg h]
   have : ¬ k = x := fun z => h z.symm
   simp [this]
theorem Y0 (f : Int -> Int) (N : Nat) : ∀ s : Ms,nd s -> (∀ k ∈ Az s,0 <= k /\ k < (N : Int)) -> sumP s f = sumN (fun j => getI s (j : Int) * f (j : Int)) N
 | [],_,_ => by
   have : sumN (fun j => getI [] (j : Int) * f (j : Int)) N = sumN (fun _ => 0) N := Ax fun j _ => by rw [T7,Int.zero_mul]
   rw [this,J6]
   rfl
 | (k,v) :: s,hn,hk => by
   have hn2 : nd s := (List.nodup_cons.mp hn).2
   have hk1 : k ∉ Az s := (List.nodup_cons.mp hn).1
   obtain ⟨k0,kN⟩ := hk k (List.mem_cons_self ..)
   have ih := Y0 f N s hn2 fun k' h' => hk k' (List.mem_cons_of_mem _ h')
   have e : sumN (fun j => getI ((k,v) :: s) (j : Int) * f (j : Int)) N = sumN (fun j => (if j = k.toNat then 1 else 0) * (v * f (j : Int)) + getI s (j : Int) * f (j : Int)) N := Ax fun j _ => by
    rw [Ar3]
    by_cases h : j = k.toNat
    . rw [if_pos (by omega),if_pos h]
      have : getI s (j : Int) = 0 := by rw [show (j : Int) = k by omega]; exact B7 hk1
      rw [this]; omega
    . rw [if_neg (by omega),if_neg h]; omega
   rw [e,J8,Hx,if_pos (by omega),← ih,show ((k.toNat : Nat) : Int) = k by omega]
   rfl
theorem Ar1 {ms : Ms} {k v x : Int} : getI (putI ms k v) x = if x = k then v else getI ms x := by
 unfold getI
 rw [Kp]
 by_cases h : x = k
 . rw [if_pos h,if_pos h]; rfl
 . rw [if_neg h,if_neg h]
theorem A02 {p : Int} {xs : List (List Int)} {es ss : List Ms} {bs : Ms} {i : Nat} {s e : Ms} (g : J3 p xs es ss bs) (sh : El p xs es ss) (hp : 2 <= p) (hs : ss[i]? = some s) (he : es[i]? = some e) (x : Int) :
 sumN (fun j => getI s (j : Int) * oft (xs.getD j []) x) xs.length % p ≠ 0 ↔ x ∈ Az e := by
 obtain ⟨ok,_⟩ := g.eok i e he
 have hd := sh.bd i s e hs he x
 rw [← O1 ok.nz]
 have hb : 0 <= getI e x /\ getI e x < p := by
  by_cases hx : x ∈ Az e
  . obtain ⟨r,hr,rfl⟩ := List.mem_map.mp hx
    have e1 := Ni ok.nd hr
    have e2 : getI e r.1 = r.2 := by unfold getI; rw [e1]; rfl
    have := ok.bd r hr
    omega
  . rw [B7 hx]; omega
 have : sumN (fun j => getI s (j : Int) * oft (xs.getD j []) x) xs.length % p = getI e x := by
  rw [Int.emod_eq_emod_iff_emod_sub_eq_zero.mpr (Int.emod_eq_zero_of_dvd hd)]
  exact Int.emod_eq_of_lt hb.1 hb.2
 rw [this]
section
variable (K : W.Frag) (CG : Addr)
def Jo (_K : W.Frag) : Sp := fun vs H Q _ => ∃ c : Int,vs = [.int c] /\ ∀ (p : Int) (H' : Hp),Same H H' -> Dz p -> p < 98 -> Q (.int p) H'
def Sv : Sp := fun vs H Q _ => ∃ (a : Addr) (us : List V),vs = [.ref a] /\ SqL K H a us /\ us.length <= 40 /\ Q .non H
def Nu : Sp := fun vs H Q _ => ∃ (c : Addr) (ns : List Int) (kind most : Int),vs = [.int kind,.ref c,.int most] /\ SqL K H c (ns.map V.int) /\ ns.length <= 63 /\ 0 <= most /\ most <= 40 ∧
 ∀ (p : Addr) (us : List V) (xs : List (List Int)) (H' : Hp),H p = none -> Same H H' -> H' p = some (.lst us) -> Reps K H' us (xs.map tI) -> Dl xs -> (xs.length : Int) <= most -> Q (.ref p) H'
def G7 : Sp := fun vs H Q _ => ∃ (g pc sh ed en s e : Addr) (p : Int) (xs : List (List Int)) (es ss : List Ms) (bs ms me : Ms) (l : Nat) (pq : List Int),vs = [.ref g,.ref s,.ref e] /\ B5 K CG H g pc sh ed en p xs es ss bs /\ H s = some (.dK (cK ms)) /\ H e = some (.dK (cK me)) /\ s ≠ en /\ e ≠ en /\ OkM p ms /\ OkM p me ∧
 (∀ x ∈ Az ms,0 <= x /\ x <= (xs.length : Int)) /\ (∀ x ∈ Az me,0 <= x /\ x < (xs.length : Int) /\ (xs.getD x.toNat []).length - 1 + 1 = l) /\ El p xs es ss /\ Nf p xs pq ms me /\ l = pq.length - 1 ∧
 ∀ (t s' e' : Addr) (ms' me' : Ms) (H' : Hp),Same H H' -> H' t = some (.tup [.ref s',.ref e']) -> H' s' = some (.dK (cK ms')) -> H' e' = some (.dK (cK me')) -> s' ≠ en -> e' ≠ en -> OkM p ms' -> OkM p me' -> (∀ x ∈ Az ms',0 <= x /\ x <= (xs.length : Int)) →
   (∀ x ∈ Az me',0 <= x /\ x < (xs.length : Int) /\ (xs.getD x.toNat []).length - 1 + 1 = l) -> (∀ b,Top me' b -> A0 bs b = none) -> Nf p xs pq ms' me' -> Q (.ref t) H'
def Nz : Sp := fun vs H Q _ => ∃ (g pc sh ed en : Addr) (v : V) (p : Int) (xs : List (List Int)) (q : List Int) (es ss : List Ms) (bs : Ms),vs = [.ref g,v] /\ B5 K CG H g pc sh ed en p xs es ss bs /\ TI K H v q /\ En xs (tI q) = true /\ xs.length < 40 /\ El p xs es ss ∧
 ∀ (r : V) (me ms bs' : Ms) (H' : Hp),FrG pc sh ed en H H' -> B5 K CG H' g pc sh ed en p (xs ++ [q]) (es ++ [me]) (ss ++ [ms]) bs' -> El p (xs ++ [q]) (es ++ [me]) (ss ++ [ms]) -> AnsE me r -> Q r H'
def Nx : Sp := fun vs H Q _ => ∃ (g pc sh ed en : Addr) (p : Int) (xs : List (List Int)) (es ss : List Ms) (bs s : Ms) (i : Nat),vs = [.ref g,.int (i : Int)] /\ B5 K CG H g pc sh ed en p xs es ss bs /\ ss[i]? = some s /\ newC H s Q
def Ny : Sp := fun vs H Q _ => ∃ (g pc sh ed en : Addr) (p : Int) (xs : List (List Int)) (es ss : List Ms) (bs : Ms),vs = [.ref g] /\ B5 K CG H g pc sh ed en p xs es ss bs ∧
 ∀ (l : Addr) (us : List V) (H' : Hp),H l = none -> Same H H' -> H' l = some (.lst us) -> Reps K H' us (Kj es bs) -> Q (.ref l) H'
def Sy : Sp := fun vs H Q _ => ∃ (a d : Addr) (xs : List (List Int)) (s : Ms) (p : Int),vs = [.ref a,.ref d,.int p] /\ LT K H (.ref a) xs /\ (∀ x ∈ xs,x.length <= 4) /\ H d = some (.dK (cK s)) /\ OkM p s /\ (∀ x ∈ Az s,0 <= x /\ x < (xs.length : Int)) /\ s.length <= 1000 /\ 0 < p /\ p < 98 ∧
 ∀ (l : Addr) (ks : List Int) (H' : Hp),H l = none -> Same H H' -> H' l = some (.lst (ks.map V.int)) -> (∀ x,x ∈ ks ↔ sumN (fun j => getI s (j : Int) * oft (xs.getD j []) x) xs.length % p ≠ 0) -> Q (.ref l) H'
def Jp : Sp := fun vs H Q _ => ∃ (a d : Addr) (xs : List (List Int)) (s : Ms) (p : Int) (i : Nat),vs = [.ref a,.ref d,.int (i : Int),.int p] /\ LT K H (.ref a) xs /\ H d = some (.dK (cK s)) /\ OkM p s /\ (∀ x ∈ Az s,0 <= x /\ x <= (i : Int) /\ (xs.getD x.toNat []).length - 1 = (xs.getD i []).length - 1) /\ i < xs.length /\ getI s (i : Int) = 1 /\ s.length <= 1000 ∧
 ∀ H',Same H H' -> Q (.bl true) H'
def Xe : Sp := fun vs H Q _ => ∃ (g pc sh ed en a : Addr) (p : Int) (xs : List (List Int)) (es ss : List Ms) (bs : Ms),vs = [.ref g,.ref a,.int p] /\ B5 K CG H g pc sh ed en p xs es ss bs /\ El p xs es ss /\ LT K H (.ref a) xs ∧
 ∀ (l : Addr) (us : List V) (H' : Hp),H l = none -> Same H H' -> H' l = some (.lst us) -> Reps K H' us (Kj es bs) -> Q (.ref l) H'
def Gx : Sp := fun vs H Q _ => ∃ (a b : Addr) (es : List Ms) (bs : Ms),vs = [.ref a,.ref b] /\ Rep K H (.ref a) (.lst (Kj es bs)) /\ Rep K H (.ref b) (.lst (Kj es bs)) /\ ∀ H',Same H H' -> Q (.bl true) H'
def Nq : Sp := fun vs H Q _ => ∃ (a b : Addr) (rs : List V) (p : Int) (xs : List (List Int)) (es ss : List Ms) (bs : Ms),vs = [.ref a,.ref b] /\ SqL K H a rs /\ AnsL es rs /\ Rep K H (.ref b) (.lst (Kj es bs)) /\ J3 p xs es ss bs /\ ∀ H',Same H H' -> Q (.bl true) H'
end
end Hb
namespace Hb
open PySem L2
theorem Az9 {xs : List (List Int)} {q : List Int} (h : Fits xs q) : En xs (tI q) = true := by
 show En xs (.tup (nums q)) = true
 rw [Cn]
 have hl : (nums q).length = q.length := by unfold nums; rw [List.length_map]
 have hin : ∀ f ∈ q,0 <= f /\ f < (xs.length : Int) /\ (xs.getD f.toNat []).length - 1 + 1 = q.length - 1 /\ xs[f.toNat]? = some (xs.getD f.toNat []) := fun f hf => by
  obtain ⟨r,hr,hlv⟩ := h.bel f hf
  have h0 := h.low f hf
  have hlt := (List.getElem?_eq_some_iff.mp hr).1
  have e : xs.getD f.toNat [] = r := by rw [List.getD_eq_getElem?_getD,hr]; rfl
  rw [e]
  exact ⟨h0,by omega,hlv,hr⟩
 simp only [Bool.and_eq_true,Bool.or_eq_true,decide_eq_true_eq]
 refine ⟨⟨?_,?_⟩,?_⟩
 . rw [hl]
   unfold cntB
   rcases h.cnt with z | z | z | z <;> rw [z] <;> rfl
 . rw [List.all_eq_true]
   intro d hd
   obtain ⟨f,hf,rfl⟩ := List.mem_map.mp hd
   obtain ⟨h0,h1,h2,_⟩ := hin f hf
   show (decide (0 <= f) && decide (f < (xs.length : Int)) && decide (levI (xs.getD f.toNat []).length = levI (nums q).length - 1)) = true
   rw [hl,Bu,Bu,decide_eq_true h0,decide_eq_true h1,decide_eq_true (by omega)]
   rfl
 . rw [hl,Af4]
   by_cases hq : levI q.length < 2
   . exact .inl hq
   right
   rw [Bu] at hq
   unfold Ek
   rw [List.all_eq_true]
   intro j hj
   rw [List.all_eq_true]
   intro i hi
   have hj' := List.mem_range.mp hj
   have hi' := List.mem_range.mp hi
   have ej : q[j]? = some (q.getD j 0) := by rw [List.getD_eq_getElem?_getD,List.getElem?_eq_getElem hj']; rfl
   have ei : q[i]? = some (q.getD i 0) := by rw [List.getD_eq_getElem?_getD,List.getElem?_eq_getElem (by omega)]; rfl
   obtain ⟨_,_,_,rj⟩ := hin _ (List.mem_of_getElem? ej)
   obtain ⟨_,_,_,ri⟩ := hin _ (List.mem_of_getElem? ei)
   have := h.agr (by omega) i j _ _ _ _ hi' ej ei rj ri
   unfold J1
   rw [decide_eq_true_eq]
   have e1 : ∀ (l : List Int) (k : Nat),l.getD k 0 = l[k]?.getD 0 := fun l k => List.getD_eq_getElem?_getD
   rw [e1 (xs.getD (q.getD j 0).toNat []) i,e1 (xs.getD (q.getD i 0).toNat []) (j - 1),this]
end Hb
namespace Hb
open PySem L2
def top (i : Nat) : Stmt := PySem.Challenge.pw_holebook_k55_papers_force_the_pairs.main.body.getD i (.Pass ⟨0,0,0,0⟩)
structure Txt (K : W.Frag) (mg : Str -> Option Value) (C_Growth : Addr) : Prop where
 m_Growth : mg "Growth" = some (.ref C_Growth)
 cl_Growth : Cls K C_Growth
 na_Growth_prime : NoAttr K C_Growth "prime"
 na_Growth_pieces : NoAttr K C_Growth "pieces"
 na_Growth_sheets : NoAttr K C_Growth "sheets"
 na_Growth_edges : NoAttr K C_Growth "edges"
 na_Growth_enders : NoAttr K C_Growth "enders"
 x_FACE_COUNTS : ∃ a,mg "FACE_COUNTS" = some (.ref a) /\ ∀ H,SqT K H a (([0,2,3,4] : List Int).map V.int)
 x_MOST_PIECES : ∃ t,mg "MOST_PIECES" = some (.int 40 t)
 x_PRIME_BOUND : ∃ t,mg "PRIME_BOUND" = some (.int 98 t)
 n_isinstance : mg "isinstance" = none
 n_int : mg "int" = none
 n_bool : mg "bool" = none
 n_tuple : mg "tuple" = none
 n_zip : mg "zip" = none
 n_max : mg "max" = none
 n_len : mg "len" = none
 n_all : mg "all" = none
 n_range : mg "range" = none
 n_dict : mg "dict" = none
 n_enumerate : mg "enumerate" = none
 n_list : mg "list" = none
def cutS (ns : List Int) (lo hi : Option Int) : List Int := (ns.drop (HT.sIx ns.length 0 lo)).take (HT.sIx ns.length ns.length hi - HT.sIx ns.length 0 lo)
theorem Ar8 (ns : List Int) (lo hi : Option Int) : cutV (ns.map V.int) lo hi = (cutS ns lo hi).map V.int := by
 unfold cutV cutS
 rw [List.length_map,List.map_take,List.map_drop]
theorem Ar9 (ns : List Int) (lo hi : Option Int) : (cutS ns lo hi).length <= ns.length := by
 unfold cutS
 rw [List.length_take,List.length_drop]
 omega
theorem U4 : Dl [] := fun k q h => by simp at h
theorem U8 {K : W.Frag} {H : Hp} : ∀ l : List Nat,Reps K H (l.map fun (j : Nat) => V.int (j : Int)) (l.map fun (j : Nat) => L2.D.int (j : Int))
 | [] => rfl
 | j :: l => ⟨_,_,rfl,rfl,U8 l⟩
theorem V6 : ∀ l : List Nat,deps (l.map fun (j : Nat) => L2.D.int (j : Int)) <= 1
 | [] => by simp [deps]
 | j :: l => by
   have := V6 l
   simp only [List.map_cons,deps,dep]
   omega
theorem Ba1 : (["number"] : List Str).Nodup := by decide +kernel
theorem A61 : (["old","new","quotient"] : List Str).Nodup := by decide +kernel
theorem Ba0 : (["face","shape","level"] : List Str).Nodup := by decide +kernel
theorem A51 : (["place","old","number"] : List Str).Nodup := by decide +kernel
theorem A99 : (["number","thing"] : List Str).Nodup := by decide +kernel
theorem A50 : (["place","number","prime"] : List Str).Nodup := by decide +kernel
theorem A49 : (["birth","edge","self"] : List Str).Nodup := by decide +kernel
theorem A98 : (["_law_place","_law_pieces"] : List Str).Nodup := by decide +kernel
theorem A97 : (["_law_face","_law_pieces","_law_j"] : List Str).Nodup := by decide +kernel
theorem A96 : (["_law_face","_law_pieces","_law_faces"] : List Str).Nodup := by decide +kernel
theorem A60 : (["_law_face","_law_pieces","_law_level_here"] : List Str).Nodup := by decide +kernel
theorem A59 : (["_law_letter"] : List Str).Nodup := by decide +kernel
theorem A58 : (["_law_i","_law_word"] : List Str).Nodup := by decide +kernel
theorem A57 : (["_law_word","_law_family","_law_words"] : List Str).Nodup := by decide +kernel
theorem A56 : (["_law_face","_law_words"] : List Str).Nodup := by decide +kernel
theorem A55 : (["_law_n"] : List Str).Nodup := by decide +kernel
theorem A54 : (["_law_k","_law_n"] : List Str).Nodup := by decide +kernel
theorem At3 : (["_law_face","_law_number","_law_prime_here"] : List Str).Nodup := by decide +kernel
theorem A53 : (["_law_place","_law_ends"] : List Str).Nodup := by decide +kernel
theorem A52 : (["_law_piece","_law_growth"] : List Str).Nodup := by decide +kernel
section
variable {P : Program} {w : World} {K : W.Frag} {mg : Str -> Option Value} {base : Heap} {C_Growth : Addr}
abbrev D9 : Stmt := top 2
theorem Xl : FnScope ["thing"] ["thing"] (Af D9) := ⟨rfl,rfl,rfl,by decide +kernel,rfl,by decide +kernel,by decide +kernel⟩
theorem Xu {f : Addr} {fd : FuncData} (F : Fun K "is_whole" "is_whole" D9 f fd) (T : Txt K mg C_Growth)  : FnOk P w K mg base CX0 1 f fd ["thing"] (Fr K) := by
 refine F.ok Xl (fun vs H Q E h => ?_) (fun cdv A outer s H vs Q E hr h => ?_)
 . obtain ⟨x,d,rfl,hx,k⟩ := h
   rfl
 . obtain ⟨x,d,rfl,hx,k⟩ := h
   refine ⟨_,(Ag (Ap (Ve (Ao (C3 (K := K)) (by rfl) T.n_isinstance A4 (Aa (pv 0) (Aa (F1 (v := .ty "int") rfl T.n_int boot_intT rfl) Ad))) (Rt (At2 (Ao (C3 (K := K)) (by rfl) T.n_isinstance A4 (Aa (pv 0) (Aa (F1 (v := .ty "bool") rfl T.n_bool Sd rfl) Ad)))))))),?_⟩
   refine ⟨_,rfl,_,_,d,rfl,.inl rfl,hx,_,rfl,?_⟩
   refine ite2 (fun e => ?_) (fun e => ?_)
   . refine ⟨_,rfl,_,_,d,rfl,.inr (.inl rfl),hx,_,rfl,?_⟩
     have e2 : Dc d = !isD "bool" d := by unfold Dc; rw [e]; rfl
     rw [e2] at k
     exact k
   . have e2 : Dc d = false := by unfold Dc; simp [e]
     rw [e2] at k
     exact k
abbrev Bj : Stmt := top 4
theorem Lk : FnScope ["one","other","last","now","quotient","rest"] ["one","other"] (Af Bj) := ⟨rfl,rfl,rfl,by decide +kernel,rfl,by decide +kernel,by decide +kernel⟩
theorem Bi : (["one","other","last","now","quotient","rest"] : List Str).Nodup := by decide +kernel
theorem Lu {f : Addr} {fd : FuncData} (F : Fun K "shared_divisor" "shared_divisor" Bj f fd) (T : Txt K mg C_Growth)  : FnOk P w K mg base CX0 1 f fd ["one","other"] (Xc K) := by
 refine F.ok Lk (fun vs H Q E h => ?_) (fun cdv A outer s H vs Q E hr h => ?_)
 . obtain ⟨n,p,rfl,hp,hp98,hn,k⟩ := h
   rfl
 . obtain ⟨n,p,rfl,hp,hp98,hn,k⟩ := h
   refine ⟨_,(Ac (Aw (i := 2) Bi (by rfl) (by first | exact Or.inl rfl | exact Or.inr rfl) (Cd (Aa (pv 0) (Aa Ah (Aa Ah Ad)))))
    (Ac (Aw (i := 3) Bi (by rfl) (by first | exact Or.inl rfl | exact Or.inr rfl) (Cd (Aa (pv 1) (Aa Ah (Aa Ah Ad)))))
    (Ac (Y6 PassesOwn.never (Am Oe (Bc (Bb (K := K)) (pv 3) Ah (fun _ _ => rfl)) Ah (Au _)) (Ac (Aw (i := 4) Bi (by rfl) (by first | exact Or.inl rfl | exact Or.inr rfl) (Ay F2 (Bc (Bb (K := K)) (pv 2) Ah (fun _ _ => rfl)) (Bc (Bb (K := K)) (pv 3) Ah (fun _ _ => rfl))))
    (Ac (Aw (i := 5) Bi (by rfl) (by first | exact Or.inl rfl | exact Or.inr rfl) (C5 (Dn (K := K)) (by rfl) T.n_tuple Cw (Aa (Cr (N' := ["old","new","quotient"]) (cap := [none,none,some 4]) (by rfl) (by kernel_rfl) (Aw5 (K := K) (by rfl) T.n_zip (Aa (pv 2) (Aa (pv 3) Ad))) (fun _ _ _ _ => (Eh (K := K) (n := 2) (by rfl) (A8 (As (i := 0) A61 (by rfl) (by first | exact Or.inl rfl | exact Or.inr rfl)) (A8 (As (i := 1) A61 (by rfl) (by first | exact Or.inl rfl | exact Or.inr rfl)) Ef)))) (fun _ _ _ _ => Dr) (fun _ _ _ _ => (Ay Kk (pv 0) (Ay op_mulX (pv 2) (pv 1))))) Ad)))
    (Ac (Aw (i := 2) Bi (by rfl) (by first | exact Or.inl rfl | exact Or.inr rfl) (pv 3))
    (Ag (Aw (i := 3) Bi (by rfl) (by first | exact Or.inl rfl | exact Or.inr rfl) (pv 5)))))))
    (Ac (A6 (Am Ls (Bc (Bb (K := K)) (pv 2) Ah (fun _ _ => rfl)) Ah (Au _)) (Ag (Ap (C5 (Dn (K := K)) (by rfl) T.n_tuple Cw (Aa (Cr (N' := ["number"]) (cap := [none]) (by rfl) (by kernel_rfl) (L5 (K := K) (pv 2)) (fun _ _ _ _ => (As (i := 0) Ba1 (by rfl) (by first | exact Or.inl rfl | exact Or.inr rfl))) (fun _ _ _ _ => Dr) (fun _ _ _ _ => (Xq Nn (pv 0)))) Ad)))) Aq)
    (Ag (Ap (pv 2))))))),?_⟩
   have hp2 := hp.two
   refine ⟨_,rfl,A9 (by simp),fun L0 hL0 => ?_⟩
   have s0 : Same H (upd H L0 (.tup [.int n,.int 1,.int 0])) := Same.new hL0
   refine ⟨_,rfl,A9 (by simp),fun N0 hN0 => ?_⟩
   have s1 : Same (upd H L0 (.tup [.int n,.int 1,.int 0])) (upd (upd H L0 (.tup [.int n,.int 1,.int 0])) N0 (.tup [.int p,.int 0,.int 1])) := Same.new hN0
   refine Ar (fun σ' H' => σ' = [some (.int n),some (.int p),some (.ref L0),some (.ref N0),none,none] /\ H' = upd (upd H L0 (.tup [.int n,.int 1,.int 0])) N0 (.tup [.int p,.int 0,.int 1])) ?_ fun key0 => key0 _ _ ⟨rfl,rfl⟩
   rintro _ _ ⟨rfl,rfl⟩
   refine Ar (fun σ' H' => ∃ (L N : Addr) (x y : Int) (o4 o5 : Option V),σ' = [some (.int n),some (.int p),some (.ref L),some (.ref N),o4,o5] /\ Same H H' /\ SqT K H' L [.int 1,.int x,.int y] /\ p ∣ 1 - x * n) ?_ fun key => ?_
   rotate_left
   . refine ⟨fun m σ G => ∃ (L N : Addr) (a x y b u v : Int) (o4 o5 : Option V),σ = [some (.int n),some (.int p),some (.ref L),some (.ref N),o4,o5] /\ Same H G /\ SqT K G L [.int a,.int x,.int y] /\ SqT K G N [.int b,.int u,.int v] /\ Eu n p a x b u /\ ((b = p /\ u = 0 /\ v = 1) \/ (0 <= b /\ b < a /\ a <= p)) /\ m = b.toNat,⟨_,L0,N0,n,1,0,p,0,1,none,none,rfl,s0.trans s1,.of (s1 _ _ Ab),.of Ab,Eu.start n p,.inl ⟨rfl,rfl,rfl⟩,rfl⟩,?_⟩
     rintro m σ G ⟨L,N,a,x,y,b,u,v,o4,o5,rfl,s2,hL,hN,hE,hst,rfl⟩
     refine ⟨_,rfl,N,_,_,_,rfl,rfl,hN,rfl,rfl,_,rfl,?_⟩
     refine ite2 (fun h1 => ?_) (fun h1 => ?_)
     . have hb0 : ¬ b = 0 := by simpa using h1
       have hbp : 0 < b /\ b <= p := by omega
       have hq : IntMulOk (a / b) u /\ IntMulOk (a / b) v := by
        rcases hst with ⟨_,e1,e2⟩ | ⟨e0,e1,e2⟩
        . subst e1 e2
          exact ⟨Ae8 (by decide) (by decide),Ae8 (by decide) (by decide)⟩
        . have q0 : 0 <= a / b := Int.ediv_nonneg (by omega) (by omega)
          have q1 : a / b <= a := Int.ediv_le_self _ (by omega)
          exact ⟨Mx (by omega) (by omega),Mx (by omega) (by omega)⟩
       have hr : a - a / b * b = a % b := by rw [Int.emod_def,Int.mul_comm]
       have hr0 : 0 <= a % b := Int.emod_nonneg _ (by omega)
       have hr1 : a % b < b := Int.emod_lt_of_pos _ (by omega)
       refine ⟨fun σ' G' => ∃ (L N : Addr) (a' x y b' u v : Int) (o4 o5 : Option V),σ' = [some (.int n),some (.int p),some (.ref L),some (.ref N),o4,o5] /\ Same H G' /\ SqT K G' L [.int a',.int x,.int y] /\ SqT K G' N [.int b',.int u,.int v] /\ Eu n p a' x b' u /\ (0 <= b' /\ b' < a' /\ a' <= p) /\ b' < b,?_,?_⟩
       . rintro σ' G' ⟨L',N',a',x',y',b',u',v',o4',o5',rfl,q1,q2,q3,q4,q5,q6⟩
         exact ⟨b'.toNat,by omega,L',N',a',x',y',b',u',v',o4',o5',rfl,q1,q2,q3,q4,.inr q5,rfl⟩
       refine ⟨_,rfl,L,_,_,_,rfl,rfl,hL,rfl,_,rfl,N,_,_,_,rfl,rfl,hN,rfl,_,_,rfl,rfl,⟨by omega,by omega⟩,?_⟩
       refine ⟨_,rfl,_,rfl,L,N,rfl,⟨_,hL⟩,⟨_,hN⟩,fun D hD => ?_⟩
       have gv : ∀ (i : Nat) (e f : V),([.int a,.int x,.int y] : List V)[i]? = some e -> ([.int b,.int u,.int v] : List V)[i]? = some f -> ∃ e' f' : Int,e = .int e' /\ f = .int f' /\ IntMulOk (a / b) f' /\ i < 3 ∧
        ([.int (a - a / b * b),.int (x - a / b * u),.int (y - a / b * v)] : List V)[i]? = some (.int (e' - a / b * f')) := by
        intro i e f he hf
        match i,he,hf with
        | 0,he,hf => cases he; cases hf; exact ⟨a,b,rfl,rfl,Ae8 (by omega) (by omega),by decide,rfl⟩
        | 1,he,hf => cases he; cases hf; exact ⟨x,u,rfl,rfl,hq.1,by decide,rfl⟩
        | 2,he,hf => cases he; cases hf; exact ⟨y,v,rfl,rfl,hq.2,by decide,rfl⟩
        | i + 3,he,hf => simp at he
       refine p6 (K := K) (a := L) (b := N) (xs := [.int a,.int x,.int y]) (ys := [.int b,.int u,.int v]) (n := 3) ⟨rfl,rfl⟩ (fun i zs τ G1 => Same G G1 /\ G1 D = some (.lst zs) /\ zs = ([.int (a - a / b * b),.int (x - a / b * u),.int (y - a / b * v)] : List V).take i /\ ∃ o1 o2,τ = [o1,o2,some (.int (a / b))])
        ⟨Same.new hD,Ab,rfl,none,none,rfl⟩ (fun i zs τ G1 _ ⟨s3,_⟩ => ⟨s3.seqT hL,s3.seqT hN⟩) ?_ ?_
       . rintro i e f zs τ G1 pr he hf ⟨s3,hD3,hzs,o1,o2,rfl⟩ hpr
         obtain ⟨e',f',rfl,rfl,hok,hi3,hnext⟩ := gv i e f he hf
         have sp : Same G1 (upd G1 pr (.tup [.int e',.int f'])) := Same.new hpr
         refine ⟨pr,_,rfl,.of Ab,rfl,_,_,rfl,_,_,rfl,rfl,?_⟩
         refine ⟨_,rfl,_,rfl,_,rfl,_,_,rfl,rfl,hok,_,_,rfl,rfl,?_⟩
         refine ⟨sp _ _ hD3,Cq (by rw [hzs,List.length_take]; omega),(s3.trans sp).turn hD,Ab,?_,_,_,rfl⟩
         rw [List.take_succ,hnext,hzs]
         rfl
       . rintro zs τ G1 ⟨s3,hD3,hzs,_⟩
         refine ⟨D,_,rfl,.inl ⟨.of hD3,fun T1 hT1 => ?_⟩⟩
         have s4 : Same G1 (upd G1 T1 (.tup zs)) := Same.new hT1
         have hzs' : zs = [.int (a - a / b * b),.int (x - a / b * u),.int (y - a / b * v)] := hzs
         have hT2 : SqT K (upd G1 T1 (.tup zs)) T1 [.int (a - a / b * b),.int (x - a / b * u),.int (y - a / b * v)] := by rw [← hzs']; exact .of Ab
         refine ⟨_,rfl,_,rfl,N,T1,b,u,v,a - a / b * b,x - a / b * u,y - a / b * v,_,_,rfl,(s2.trans s3).trans s4,(s3.trans s4).seqT hN,hT2,hE.step (a / b),?_,?_⟩
         . rw [hr]; exact ⟨hr0,hr1,hbp.2⟩
         . rw [hr]; exact hr1
     . have hb0 : b = 0 := by simpa using h1
       subst hb0
       have ha : 0 < a := by omega
       have e1 := hE.last hp hn ha
       subst e1
       exact key _ _ ⟨L,N,x,y,o4,o5,rfl,s2,hL,hE.ha⟩
   rintro _ G ⟨L,N,x,y,o4,o5,rfl,s2,hL,hd⟩
   refine ⟨_,rfl,L,_,_,_,rfl,rfl,hL,rfl,_,_,rfl,rfl,_,rfl,?_⟩
   refine ifN (by simp) ?_
   exact ⟨_,rfl,k L x y G s2 hL hd⟩
abbrev D8 : Stmt := top 7
theorem Xk : FnScope ["piece"] ["piece"] (Af D8) := ⟨rfl,rfl,rfl,by decide +kernel,rfl,by decide +kernel,by decide +kernel⟩
theorem Xt {f : Addr} {fd : FuncData} (F : Fun K "level_of" "level_of" D8 f fd) (T : Txt K mg C_Growth)  : FnOk P w K mg base CX0 1 f fd ["piece"] (Bx K) := by
 refine F.ok Xk (fun vs H Q E h => ?_) (fun cdv A outer s H vs Q E hr h => ?_)
 . obtain ⟨x,ds,rfl,hx,k⟩ := h
   rfl
 . obtain ⟨x,ds,rfl,hx,k⟩ := h
   refine ⟨_,(Ag (Ap (Ao (Wn (by rfl)) (by rfl) T.n_max Fl (Aa (Ay Kk (Ao (Aj (K := K)) (by rfl) T.n_len PySem.boot_len (Aa (pv 0) Ad)) Ah) (Aa Ah Ad))))),?_⟩
   obtain ⟨p,us,e,hq,hl⟩ : ∃ (p : Addr) (us : List V),x = .ref p /\ (SqL K H p us \/ SqT K H p us) /\ us.length = ds.length := by
    rcases hx with ⟨p,us,e,hq,r⟩ | ⟨p,us,e,hq,r⟩
    . exact ⟨p,us,e,.inl hq,r.length⟩
    . exact ⟨p,us,e,.inr hq,r.length⟩
   subst e
   refine ⟨_,rfl,p,us,rfl,hq,_,_,rfl,rfl,_,_,rfl,?_⟩
   rw [hl]
   exact k
abbrev Cj : Stmt := top 10
theorem Qd : FnScope ["shape","faces","j","i"] ["shape","faces"] (Af Cj) := ⟨rfl,rfl,rfl,by decide +kernel,rfl,by decide +kernel,by decide +kernel⟩
theorem Ja : (["shape","faces","j","i"] : List Str).Nodup := by decide +kernel
theorem Qo {f : Addr} {fd : FuncData} (F : Fun K "faces_agree" "faces_agree" Cj f fd) (T : Txt K mg C_Growth)  : FnOk P w K mg base CX0 1 f fd ["shape","faces"] (Ew K) := by
 refine F.ok Qd (fun vs H Q E h => ?_) (fun cdv A outer s H vs Q E hr h => ?_)
 . obtain ⟨a,v,xs,p,rfl,hL,hv,hp4,hf,k⟩ := h
   rfl
 . obtain ⟨a,v,xs,p,rfl,hL,hv,hp4,hf,k⟩ := h
   refine ⟨_,(Ac (Cb PassesOwn.never rfl (B3 (by rfl) T.n_range (Aa (Ao (Aj (K := K)) (by rfl) T.n_len PySem.boot_len (Aa (pv 1) Ad)) Ad)) (As (i := 2) Ja (by rfl) (by first | exact Or.inl rfl | exact Or.inr rfl)) (Ag (Cb PassesOwn.never rfl (B3 (by rfl) T.n_range (Aa (pv 2) Ad)) (As (i := 3) Ja (by rfl) (by first | exact Or.inl rfl | exact Or.inr rfl)) (Ag (A6 (Am Oe (Bc (Bb (K := K)) (Bc (A1 (K := K)) (pv 0) (Bc (Bb (K := K)) (pv 1) (pv 2) (fun _ _ => rfl)) (fun _ _ => rfl)) (pv 3) (fun _ _ => rfl)) (Bc (Bb (K := K)) (Bc (A1 (K := K)) (pv 0) (Bc (Bb (K := K)) (pv 1) (pv 3) (fun _ _ => rfl)) (fun _ _ => rfl)) (Ay Kk (pv 2) Ah) (fun _ _ => rfl)) (Au _)) (Ag (Ap Da)) Aq)))))
    (Ag (Ap Da))),?_⟩
   obtain ⟨pa,rfl,hq⟩ := hv.sq
   have hpl : (p.map V.int).length = p.length := List.length_map ..
   refine ⟨_,rfl,pa,_,rfl,.inr hq,_,rfl,by omega,by omega,?_⟩
   rw [hpl]
   refine B4 (lo := 0) (n := ((p.length : Nat) : Int).toNat) (fun j σ H2 => H = H2 /\ (∃ o2 o3,σ = [some (.ref a),some (.ref pa),o2,o3]) /\ ∀ j' i',j' < j -> i' < j' -> J1 xs p j' i' = true)
    ⟨rfl,⟨none,none,rfl⟩,fun j' i' h => absurd h (by omega)⟩ ?_ ?_
   . rintro j σ H2 hj ⟨rfl,⟨o2,o3,rfl⟩,hall⟩
     have hj' : j < p.length := by omega
     refine ⟨_,rfl,_,rfl,by omega,by omega,?_⟩
     refine B4 (lo := 0) (n := ((0 : Int) + (j : Int)).toNat) (fun i σ H2 => H = H2 /\ (∃ o3,σ = [some (.ref a),some (.ref pa),some (.int (0 + j)),o3]) /\ ∀ i',i' < i -> J1 xs p j i' = true)
      ⟨rfl,⟨_,rfl⟩,fun i' h => absurd h (by omega)⟩ ?_ ?_
     . rintro i σ H2 hi ⟨rfl,⟨o3,rfl⟩,hall2⟩
       have hij : i < j := by omega
       have mj : p.getD j 0 ∈ p := by rw [List.getD_eq_getElem?_getD,List.getElem?_eq_getElem hj']; exact List.getElem_mem _
       have mi : p.getD i 0 ∈ p := by rw [List.getD_eq_getElem?_getD,List.getElem?_eq_getElem (by omega)]; exact List.getElem_mem _
       obtain ⟨j0,j1,j2⟩ := hf _ mj
       obtain ⟨i0,i1,i2⟩ := hf _ mi
       obtain ⟨_,z,hq1,at1⟩ := TI.get (i := (0 : Int) + (j : Int)) hv (by omega) (by omega)
       cases z
       rw [show ((0 : Int) + (j : Int)).toNat = j by omega] at at1
       obtain ⟨_,z,hq2,at2⟩ := TI.get (i := (0 : Int) + (i : Int)) hv (by omega) (by omega)
       cases z
       rw [show ((0 : Int) + (i : Int)).toNat = i by omega] at at2
       obtain ⟨us1,v1,hu1,av1,tv1⟩ := LT.get hL j0 j1
       obtain ⟨us2,v2,hu2,av2,tv2⟩ := LT.get hL i0 i1
       obtain ⟨b1,e1,hb1,ab1⟩ := TI.get (i := (0 : Int) + (i : Int)) tv1 (by omega) (by omega)
       obtain ⟨b2,e2,hb2,ab2⟩ := TI.get (i := (0 : Int) + (j : Int) - 1) tv2 (by omega) (by omega)
       subst e1 e2
       rw [show ((0 : Int) + (i : Int)).toNat = i by omega] at ab1
       rw [show ((0 : Int) + (j : Int) - 1).toNat = j - 1 by omega] at ab2
       refine ⟨_,rfl,_,rfl,_,rfl,pa,_,_,_,rfl,rfl,hq1,at1,a,us1,_,_,rfl,rfl,hu1,av1,_,rfl,b1,_,_,_,rfl,rfl,hb1,ab1,?_⟩
       refine ⟨_,rfl,_,rfl,_,rfl,pa,_,_,_,rfl,rfl,hq2,at2,a,us2,_,_,rfl,rfl,hu2,av2,_,rfl,_,_,rfl,rfl,b2,_,_,_,rfl,rfl,hb2,ab2,?_⟩
       refine ⟨rfl,_,rfl,?_⟩
       by_cases hag : (xs.getD (p.getD j 0).toNat []).getD i 0 = (xs.getD (p.getD i 0).toNat []).getD (j - 1) 0
       . refine ifN (eqI hag) ?_
         refine ⟨rfl,⟨_,rfl⟩,fun i' h => ?_⟩
         by_cases hz : i' = i
         . subst hz; unfold J1; exact decide_eq_true hag
         . exact hall2 i' (by omega)
       . refine ifP (neI hag) ?_
         have e2 : Ek xs p = false := by
          cases q : Ek xs p with
          | false => rfl
          | true =>
            unfold Ek at q
            rw [List.all_eq_true] at q
            have q2 := q j (List.mem_range.mpr hj')
            rw [List.all_eq_true] at q2
            have q3 := q2 i (List.mem_range.mpr hij)
            exact absurd (of_decide_eq_true q3) hag
         rw [e2] at k
         exact k
     . rintro σ H2 ⟨rfl,⟨o3,rfl⟩,hall2⟩
       refine ⟨rfl,⟨_,_,rfl⟩,fun j' i' h1 h2 => ?_⟩
       by_cases hz : j' = j
       . subst hz; exact hall2 i' (by omega)
       . exact hall j' i' (by omega) h2
   . rintro σ H2 ⟨rfl,⟨o2,o3,rfl⟩,hall⟩
     have e2 : Ek xs p = true := by
      unfold Ek
      rw [List.all_eq_true]
      intro j hj
      rw [List.all_eq_true]
      intro i hi
      have := List.mem_range.mp hj
      exact hall j i (by omega) (List.mem_range.mp hi)
     rw [e2] at k
     exact k
abbrev Fs : Stmt := top 13
theorem z6 : FnScope ["chain","place","number","total"] ["chain","place","number"] (Af Fs) := ⟨rfl,rfl,rfl,by decide +kernel,rfl,by decide +kernel,by decide +kernel⟩
theorem Ae5 : (["chain","place","number","total"] : List Str).Nodup := by decide +kernel
theorem Ac3 {f : Addr} {fd : FuncData} (F : Fun K "add_at" "add_at" Fs f fd) (T : Txt K mg C_Growth)  : FnOk P w K mg base CX0 1 f fd ["chain","place","number"] (Gz K) := by
 refine F.ok z6 (fun vs H Q E h => ?_) (fun cdv A outer s H vs Q E hr h => ?_)
 . obtain ⟨a,ms,k,n,rfl,ha,hl,kq⟩ := h
   rfl
 . obtain ⟨a,ms,k,n,rfl,ha,hl,kq⟩ := h
   have hu8 : (A.deeper (PyProof.Rows.envOfC "add_at" (Af Fs) s.heap.objs.size f cdv)).units + 8 < cLine := by have := hr.units; omega
   refine ⟨_,(Ac (Aw (i := 3) Ae5 (by rfl) (by first | exact Or.inl rfl | exact Or.inr rfl) (Ay Es (Y8 (u1 hu8) (pv 0) (pv 1) Ah ⟨by rfl,by rfl,by rfl,by rfl⟩) (pv 2)))
    (Ag (A6 (Am Db (pv 3) Ah (Au _)) (Ag (Cc (Ao9 (pv 0) (pv 1) Mu ⟨by rfl,by rfl,by rfl,by rfl⟩))) (Ag (Ta (u1 hu8) (pv 0) (pv 1) (pv 3) (by rfl)))))),?_⟩
   refine ⟨_,rfl,a,rfl,.inl ⟨_,.inl ha⟩,_,rfl,_,Ai7 (.inl ha),_,rfl,getI ms k,n,Al6 ms k,rfl,?_⟩
   refine ⟨_,rfl,rfl,_,rfl,?_⟩
   refine ite2 (fun h1 => ?_) (fun h1 => ?_)
   . have e : getI ms k + n = 0 := by simpa using h1
     unfold addI at kq
     rw [if_pos e] at kq
     refine ⟨_,rfl,a,rfl,.inl ⟨_,.inl ha⟩,_,rfl,cK ms,.inl k,ha,rfl,fun v hv => ?_,fun hn => ?_⟩
     . rw [A11]
       exact kq
     . rw [K4] at hn
       have hn' : A0 ms k = none := by simpa using hn
       have e2 : Pa ms k = ms := by
        unfold Pa
        rw [List.filter_eq_self]
        intro p hp
        have : ¬ p.1 = k := fun z => by
         have h3 : (ms.any fun p => decide (p.1 = k)) = true := List.any_eq_true.mpr ⟨p,hp,by simpa using z⟩
         rw [Am1] at h3
         obtain ⟨p',hp',e'⟩ := List.mem_map.mp h3
         rw [← e'] at hn'
         have : ∀ (ns : Ms),p' ∈ ns -> A0 ns p'.1 ≠ none := by
          intro ns
          induction ns with
          | nil => intro z; cases z
          | cons q ns ih =>
            intro hq
            rw [Bl]
            split
            . exact fun z => by cases z
            . rename_i hne
              rcases List.mem_cons.mp hq with rfl | hq
              . exact absurd rfl hne
              . exact ih hq
         exact this ms hp' hn'
        simpa using this
       rw [e2,As6 ha] at kq
       exact kq
   . have e : ¬ getI ms k + n = 0 := by simpa using h1
     unfold addI at kq
     rw [if_neg e] at kq
     exact ⟨_,rfl,_,rfl,_,rfl,a,_,rfl,Uf ha hl,kq⟩
abbrev Ln : Stmt := top 14
theorem An8 : FnScope ["number","chain"] ["number","chain"] (Af Ln) := ⟨rfl,rfl,rfl,by decide +kernel,rfl,by decide +kernel,by decide +kernel⟩
theorem Ap5 {f : Addr} {fd : FuncData} (F : Fun K "times" "times" Ln f fd) (T : Txt K mg C_Growth)  : FnOk P w K mg base CX0 1 f fd ["number","chain"] (Su K) := by
 refine F.ok An8 (fun vs H Q E h => ?_) (fun cdv A outer s H vs Q E hr h => ?_)
 . obtain ⟨n,a,ms,rfl,ha,hm,hok,k⟩ := h
   rfl
 . obtain ⟨n,a,ms,rfl,ha,hm,hok,k⟩ := h
   refine ⟨_,(Ac (A6 (Am Db (pv 0) Ah (Au _)) (Ag (Ap Ki)) Aq)
    (Ag (Ap (C5 (R8 (by rfl)) (by rfl) T.n_dict Fm (Aa (Ab6 (Cr (N' := ["place","old","number"]) (cap := [none,none,some 0]) (by rfl) (by kernel_rfl) (Ic (pv 1)) (fun _ _ _ _ => (Eh (K := K) (n := 2) (by rfl) (A8 (As (i := 0) A51 (by rfl) (by first | exact Or.inl rfl | exact Or.inr rfl)) (A8 (As (i := 1) A51 (by rfl) (by first | exact Or.inl rfl | exact Or.inr rfl)) Ef)))) (fun _ _ _ _ => Dr) (fun _ _ _ _ => (Cd (Aa (pv 0) (Aa (Ay op_mulX (pv 2) (pv 1)) Ad)))))) Ad))))),?_⟩
   refine ⟨_,rfl,rfl,_,rfl,?_⟩
   refine ite2 (fun h1 => ?_) (fun h1 => ?_)
   . have e : n = 0 := by simpa using h1
     intro D hD
     refine k D _ hD (Same.new hD) ?_
     rw [Ab]
     unfold A7
     rw [if_pos e]
     rfl
   have e : ¬ n = 0 := by simpa using h1
   refine .inr ⟨a,cK ms,ha,fun hnd o => ?_⟩
   refine ⟨_,rfl,a,o,cK ms,rfl,Ab,fun D hD => ?_⟩
   obtain ⟨hD0,nDa⟩ := T8 hD
   refine Mn (d := a) (o := o) (kvs := cK ms) (fun i zs τ H1 => ∃ ts : List Addr,zs = ts.map V.ref /\ ts.length = i /\ (∀ (j : Nat) t,ts[j]? = some t -> ∃ p : Int × Int,ms[j]? = some p /\ H1 t = some (.tup [.int p.1,.int (n * p.2)]) /\ t ≠ D) /\ H1 a = some (.frz o (.dK (cK ms))) /\ H1 D = some (.lst zs) /\ (∀ c q,c ≠ a -> H c = some q -> H1 c = some q) /\ ∃ o1 o2,τ = [o1,o2,some (.int n)])
    ⟨[],rfl,rfl,(fun j t z => by simp at z),?_,Ab,?_,none,none,rfl⟩ (fun i zs τ H1 _ ⟨_,_,_,_,e,_⟩ => e) ?_ ?_
   . rw [Ae nDa.symm]; exact Ab
   . intro c q n1 e2
     rw [Ae (Ak e2 hD0),Ae n1]
     exact e2
   . rintro i kk x zs τ H1 p hx ⟨ts,rfl,htl,hts,ha1,hD1,hk1,o1,o2,rfl⟩ hp
     obtain ⟨q,hq,rfl,rfl⟩ := Sa hx
     have hlt : i < ms.length := (List.getElem?_eq_some_iff.mp hq).1
     have sp : Same H1 (upd H1 p (.tup [.int q.1,.int q.2])) := Same.new hp
     refine ⟨p,_,rfl,.of Ab,rfl,_,_,rfl,_,_,rfl,rfl,?_⟩
     refine ⟨_,rfl,_,rfl,_,rfl,_,_,rfl,rfl,hok q (List.mem_of_getElem? hq),A9 (by simp),fun t ht => ?_⟩
     have st := sp.trans (Same.new (o := .tup [.int q.1,.int (n * q.2)]) ht)
     have ntD : t ≠ D := (Ak (sp _ _ hD1) ht).symm
     refine ⟨st _ _ hD1,Cq (by rw [List.length_map]; omega),ts ++ [t],by simp,by simp [htl],fun j t' e2 => ?_,?_,Ab,fun c r n1 e2 => ?_,_,_,rfl⟩
     . rw [List.getElem?_append] at e2
       split at e2
       . obtain ⟨p',h1',h2',h3'⟩ := hts j t' e2
         exact ⟨p',h1',by rw [Ae h3']; exact st _ _ h2',h3'⟩
       . rename_i hj
         have hj0 : j - ts.length = 0 := by
          cases hz : j - ts.length with
          | zero => rfl
          | succ m => rw [hz] at e2; simp at e2
         rw [hj0] at e2
         have et : t = t' := by simpa using e2
         subst et
         refine ⟨q,by rw [show j = i by omega]; exact hq,?_,ntD⟩
         rw [Ae ntD]
         exact Ab
     . rw [Ae nDa.symm]; exact st _ _ ha1
     . have := hk1 c r n1 e2
       rw [Ae (fun z => by rw [z,hD0] at e2; cases e2)]
       exact st _ _ this
   . rintro zs τ H1 ⟨ts,rfl,htl,hts,ha1,hD1,hk1,_⟩
     rw [Ji] at htl
     refine ⟨ha1,D,ts,cK (ms.map fun p => (p.1,n * p.2)),rfl,(by rw [Ae nDa]; exact hD1),(by rw [Ji,List.length_map]; exact htl),fun i t e2 => ?_,fun E hE => ?_⟩
     . obtain ⟨p,h1',h2',_⟩ := hts i t e2
       refine ⟨(.inl p.1,.int (n * p.2)),?_,?_⟩
       . unfold cK
         rw [List.getElem?_map,List.getElem?_map,h1']
         rfl
       . have nta : t ≠ a := F3 h2' ha1 (fun z => by cases z)
         rw [Ae nta]
         exact h2'
     . have s1 : Same H (upd H1 a (.dK (cK ms))) := fun c q e2 => by
        by_cases z : c = a
        . subst z
          rw [ha] at e2
          cases e2
          exact Ab
        . rw [Ae z]; exact hk1 c q z e2
       refine k E _ (s1.free hE) (s1.trans (Same.new hE)) ?_
       rw [Ab]
       have hnd' : nd ms := Tt.mp hnd
       rw [Hf _ [] (by rw [List.nil_append]; exact Tt.mpr (Id hnd' n))]
       unfold A7
       rw [if_neg e,List.nil_append]
abbrev Cy : Stmt := top 23
theorem S5 : FnScope ["pieces"] ["pieces"] (Af Cy) := ⟨rfl,rfl,rfl,by decide +kernel,rfl,by decide +kernel,by decide +kernel⟩
theorem Th {f : Addr} {fd : FuncData} (F : Fun K "check_size" "check_size" Cy f fd) (T : Txt K mg C_Growth)  : FnOk P w K mg base CX0 1 f fd ["pieces"] (Sv K) := by
 refine F.ok S5 (fun vs H Q E h => ?_) (fun cdv A outer s H vs Q E hr h => ?_)
 . obtain ⟨a,us,rfl,hS,h40,k⟩ := h
   rfl
 . obtain ⟨a,us,rfl,hS,h40,k⟩ := h
   obtain ⟨t_MOST_PIECES,c_MOST_PIECES⟩ := T.x_MOST_PIECES
   refine ⟨_,(Ag (A6 (Am Ac2 (Ao (Aj (K := K)) (by rfl) T.n_len PySem.boot_len (Aa (pv 0) Ad)) (Xr (v := .int 40) (by rfl) c_MOST_PIECES ⟨_,rfl⟩) (Au _)) (Ag Nh) Aq)),?_⟩
   refine ⟨_,rfl,a,us,rfl,.inl hS,_,_,rfl,rfl,_,rfl,?_⟩
   refine ifN (by simp; omega) ?_
   exact k
abbrev E4 : Stmt := top 30
theorem Z4 : FnScope ["chain","prime"] ["chain","prime"] (Af E4) := ⟨rfl,rfl,rfl,by decide +kernel,rfl,by decide +kernel,by decide +kernel⟩
theorem c5 {f : Addr} {fd : FuncData} (F : Fun K "counted" "counted" E4 f fd) (T : Txt K mg C_Growth)  : FnOk P w K mg base CX0 1 f fd ["chain","prime"] (Hy K) := by
 refine F.ok Z4 (fun vs H Q E h => ?_) (fun cdv A outer s H vs Q E hr h => ?_)
 . obtain ⟨a,ms,p,rfl,ha,hm,hnd0,hp,k⟩ := h
   rfl
 . obtain ⟨a,ms,p,rfl,ha,hm,hnd0,hp,k⟩ := h
   refine ⟨_,(Ag (Ap (C5 (R8 (by rfl)) (by rfl) T.n_dict Fm (Aa (Ab6 (Cr (N' := ["place","number","prime"]) (cap := [none,none,some 1]) (by rfl) (by kernel_rfl) (Ic (pv 0)) (fun _ _ _ _ => (Eh (K := K) (n := 2) (by rfl) (A8 (As (i := 0) A50 (by rfl) (by first | exact Or.inl rfl | exact Or.inr rfl)) (A8 (As (i := 1) A50 (by rfl) (by first | exact Or.inl rfl | exact Or.inr rfl)) Ef)))) (fun _ _ _ _ => (G8 (Am Oe (Ay Bm (pv 1) (pv 2)) Ah (Au _)))) (fun _ _ _ _ => (Cd (Aa (pv 0) (Aa (Ay Bm (pv 1) (pv 2)) Ad)))))) Ad)))),?_⟩
   refine .inr ⟨a,cK ms,ha,fun hnd o => ?_⟩
   refine ⟨_,rfl,a,o,cK ms,rfl,Ab,fun D hD => ?_⟩
   obtain ⟨hD0,nDa⟩ := T8 hD
   refine Mn (d := a) (o := o) (kvs := cK ms) (fun i zs τ H1 => ∃ ts : List Addr,zs = ts.map V.ref /\ ts.length = (modI p (ms.take i)).length /\ (∀ (j : Nat) t,ts[j]? = some t -> ∃ q : Int × Int,(modI p (ms.take i))[j]? = some q /\ H1 t = some (.tup [.int q.1,.int q.2]) /\ t ≠ D) /\ H1 a = some (.frz o (.dK (cK ms))) /\ H1 D = some (.lst zs) /\ (∀ c q,c ≠ a -> H c = some q -> H1 c = some q) /\ ∃ o1 o2,τ = [o1,o2,some (.int p)])
    ⟨[],rfl,rfl,(fun j t z => by simp at z),?_,Ab,?_,none,none,rfl⟩ (fun i zs τ H1 _ ⟨_,_,_,_,e,_⟩ => e) ?_ ?_
   . rw [Ae nDa.symm]; exact Ab
   . intro c q n1 e2
     rw [Ae (Ak e2 hD0),Ae n1]
     exact e2
   . rintro i kk x zs τ H1 pr hx ⟨ts,rfl,htl,hts,ha1,hD1,hk1,o1,o2,rfl⟩ hpr
     obtain ⟨q,hq,rfl,rfl⟩ := Sa hx
     have hlt : i < ms.length := (List.getElem?_eq_some_iff.mp hq).1
     have mt := mod_take (p := p) hq
     have ml : (modI p (ms.take i)).length <= 1000 := Nat.le_trans (Ae9 ..) (by rw [List.length_take]; omega)
     have sp : Same H1 (upd H1 pr (.tup [.int q.1,.int q.2])) := Same.new hpr
     refine ⟨pr,_,rfl,.of Ab,rfl,_,_,rfl,_,_,rfl,rfl,?_⟩
     refine ⟨_,rfl,_,rfl,_,_,rfl,rfl,hp,rfl,_,rfl,?_⟩
     refine ite2 (fun h1 => ?_) (fun h1 => ?_)
     . have e : ¬ q.2 % p = 0 := by simpa using h1
       rw [if_neg e] at mt
       refine ⟨_,rfl,_,rfl,_,rfl,_,_,rfl,rfl,hp,A9 (by simp),fun t ht => ?_⟩
       have st := sp.trans (Same.new (o := .tup [.int q.1,.int (q.2 % p)]) ht)
       have ntD : t ≠ D := (Ak (sp _ _ hD1) ht).symm
       refine ⟨st _ _ hD1,Cq (by rw [List.length_map]; omega),ts ++ [t],by simp,by rw [mt]; simp [htl],fun j t' e2 => ?_,?_,Ab,fun c r n1 e2 => ?_,_,_,rfl⟩
       . rcases Ch e2 with ⟨hj,e2⟩ | ⟨hj,rfl⟩
         . obtain ⟨p',h1',h2',h3'⟩ := hts j t' e2
           exact ⟨p',by rw [mt,List.getElem?_append_left (by omega)]; exact h1',by rw [Ae h3']; exact st _ _ h2',h3'⟩
         . refine ⟨(q.1,q.2 % p),by rw [mt,hj,htl]; simp,?_,ntD⟩
           rw [Ae ntD]
           exact Ab
       . rw [Ae nDa.symm]; exact st _ _ ha1
       . have := hk1 c r n1 e2
         rw [Ae (fun z => by rw [z,hD0] at e2; cases e2)]
         exact st _ _ this
     . have e : q.2 % p = 0 := by simpa using h1
       rw [if_pos e] at mt
       rw [← mt] at htl hts
       refine ⟨ts,rfl,htl,fun j t e2 => ?_,sp _ _ ha1,sp _ _ hD1,fun c r n1 e2 => sp _ _ (hk1 c r n1 e2),_,_,rfl⟩
       obtain ⟨p',h1',h2',h3'⟩ := hts j t e2
       exact ⟨p',h1',sp _ _ h2',h3'⟩
   . rintro zs τ H1 ⟨ts,rfl,htl,hts,ha1,hD1,hk1,_⟩
     rw [Ji,List.take_length] at htl hts
     refine ⟨ha1,D,ts,cK (modI p ms),rfl,(by rw [Ae nDa]; exact hD1),(by rw [Ji]; exact htl),fun i t e2 => ?_,fun E hE => ?_⟩
     . obtain ⟨q,h1',h2',_⟩ := hts i t e2
       refine ⟨(.inl q.1,.int q.2),?_,?_⟩
       . unfold cK
         rw [List.getElem?_map,h1']
         rfl
       . have nta : t ≠ a := F3 h2' ha1 (fun z => by cases z)
         rw [Ae nta]
         exact h2'
     . have s1 : Same H (upd H1 a (.dK (cK ms))) := fun c q e2 => by
        by_cases z : c = a
        . subst z
          rw [ha] at e2
          cases e2
          exact Ab
        . rw [Ae z]; exact hk1 c q z e2
       refine k E _ (s1.free hE) (s1.trans (Same.new hE)) ?_
       rw [Ab,Hf _ [] (by rw [List.nil_append]; exact Tt.mpr (At5 hnd0)),List.nil_append]
abbrev Bp : Stmt := Oy (top 32) 6
theorem N6 : FnScope ["self"] ["self"] (Af Bp) := ⟨rfl,rfl,rfl,by decide +kernel,rfl,by decide +kernel,by decide +kernel⟩
theorem Oh {f : Addr} {fd : FuncData} (F : Fun K "pairs" "Growth.pairs" Bp f fd) (T : Txt K mg C_Growth)  : FnOk P w K mg base CX0 1 f fd ["self"] (Ny K C_Growth) := by
 refine F.ok N6 (fun vs H Q E h => ?_) (fun cdv A outer s H vs Q E hr h => ?_)
 . obtain ⟨g,pc,sh,ed,en,p,xs,es,ss,bs,rfl,x,k⟩ := h
   rfl
 . obtain ⟨g,pc,sh,ed,en,p,xs,es,ss,bs,rfl,x,k⟩ := h
   have hu8 : (A.deeper (PyProof.Rows.envOfC "Growth.pairs" (Af Bp) s.heap.objs.size f cdv)).units + 8 < cLine := by have := hr.units; omega
   refine ⟨_,(Ag (Ap (Cr (N' := ["birth","edge","self"]) (cap := [none,none,some 0]) (by rfl) (by kernel_rfl) (Aw7 (K := K) (by rfl) T.n_enumerate (Aa (Bv (K := K) (pv 0)) Ad)) (fun _ _ _ _ => (Eh (K := K) (n := 2) (by rfl) (A8 (As (i := 0) A49 (by rfl) (by first | exact Or.inl rfl | exact Or.inr rfl)) (A8 (As (i := 1) A49 (by rfl) (by first | exact Or.inl rfl | exact Or.inr rfl)) Ef)))) (fun _ _ _ _ => (G8 (Am Db (Ao Pr (by rfl) T.n_len PySem.boot_len (Aa (pv 1) Ad)) Ah (Au _)))) (fun _ _ _ _ => (Cd (Aa (pv 0) (Aa (Y9 (u1 hu8) (Bv (K := K) (pv 2)) (pv 0) ⟨by rfl,by rfl,by rfl,by rfl⟩) Ad))))))),?_⟩
   obtain ⟨dx,fs,hg,l1,l2,l3,l4,l5,lm⟩ := x.ob
   obtain ⟨ds,hed,dl,dg⟩ := x.eds.ex
   have le40 : es.length <= 40 := by rw [x.gw.le]; exact x.gw.n40
   refine ⟨_,rfl,g,C_Growth,dx,fs,_,rfl,hg,T.cl_Growth,T.na_Growth_edges,l4,ed,rfl,⟨_,.of hed⟩,fun D hD => ?_⟩
   refine Ak7 (K := K) (a := ed) (xs := ds.map V.ref) (fun i ys τ G => i <= es.length /\ Same H G /\ G D = some (.lst ys) /\ Reps K G ys (Gk es bs i) /\ ∃ o1 o2,τ = [o1,o2,some (.ref g)])
    ⟨Nat.zero_le _,Same.new hD,Ab,rfl,none,none,rfl⟩ (fun i ys τ G _ ⟨_,g1,_⟩ => .of (g1 _ _ hed)) ?_ ?_
   . rintro i y ys τ G pr hy ⟨hi,g1,hDG,ry,o1,o2,rfl⟩ hp
     have hid : i < ds.length := by have := (List.getElem?_eq_some_iff.mp hy).1; simpa using this
     have hie : i < es.length := by omega
     have hem : es[i]? = some (es.getD i []) := Pw hie
     have hdi : ds[i]? = some ds[i] := List.getElem?_eq_getElem hid
     obtain ⟨hde,nde⟩ := dg i _ _ hdi hem
     have hyv : y = .ref ds[i] := by
      rw [List.getElem?_map,hdi] at hy
      exact (Option.some.inj hy).symm
     subst hyv
     have yl : ys.length <= i := by have := ry.length; rw [this]; exact b9 ..
     have sp := Same.new (o := .tup [.int (i : Int),.ref ds[i]]) hp
     have g2 := g1.trans sp
     refine ⟨pr,_,rfl,.of Ab,rfl,_,_,rfl,_,_,rfl,rfl,?_⟩
     generalize upd G pr (.tup [.int (i : Int),.ref ds[i]]) = G1 at sp g2 ⊢
     have hDG1 := sp _ _ hDG
     refine ⟨_,rfl,_,cK (es.getD i []),rfl,g2 _ _ hde,rfl,_,rfl,?_⟩
     rw [Ji]
     have bs_ := Sb es i
     refine ite2 (fun h1 => ?_) (fun h1 => ?_)
     . have h2 : es.getD i [] = [] := by
        have : ((es.getD i []).length : Int) = 0 := by simpa using h1
        exact List.length_eq_zero_iff.mp (by omega)
       rw [if_pos h2] at bs_
       refine ⟨_,rfl,_,rfl,g,C_Growth,dx,fs,_,rfl,g2 _ _ hg,T.cl_Growth,T.na_Growth_enders,l5,en,rfl,.inl ⟨_,.inl (g2 _ _ x.ens)⟩,_,rfl,(A0 bs (i : Int)).map V.int,.inl ⟨cK bs,.inl (i : Int),.inl (g2 _ _ x.ens),rfl,(K4 _ _).symm⟩,?_⟩
       rw [Ah5]
       refine ⟨A9 (by simp),fun t ht => ?_⟩
       have st := Same.new (o := .tup [.int (i : Int),endV bs (i : Int)]) ht
       have et : upd G1 t (.tup [.int (i : Int),endV bs (i : Int)]) t = some (.tup [.int (i : Int),endV bs (i : Int)]) := Ab
       generalize upd G1 t (.tup [.int (i : Int),endV bs (i : Int)]) = G2 at st et ⊢
       have hDG2 := st _ _ hDG1
       refine ⟨hDG2,Cq (by omega),by omega,(g2.trans st).turn hD,Ab,?_,_,_,rfl⟩
       have e : Gk es bs (i + 1) = Gk es bs i ++ [Fb bs i] := by unfold Gk; rw [bs_,List.map_append]; rfl
       rw [e]
       refine Reps.t (K8.lst hDG2) ?_ (Reps.append (Reps.same (sp.trans st) ry) ⟨_,_,rfl,⟨t,_,rfl,.of et,⟨_,_,rfl,rfl,⟨_,_,rfl,Aa3 _ _,rfl⟩⟩⟩,rfl⟩)
       have := Lr bs (D6 es i ++ [i])
       rw [List.map_append] at this
       exact this
     . have h2 : ¬ es.getD i [] = [] := fun z => h1 (by rw [z]; rfl)
       rw [if_neg h2] at bs_
       refine ⟨by omega,g2,hDG1,?_,_,_,rfl⟩
       have e : Gk es bs (i + 1) = Gk es bs i := by unfold Gk; rw [bs_]
       rw [e]
       exact Reps.same sp ry
   . rintro ys τ G ⟨hi,g1,hDG,ry,_⟩
     rw [List.length_map,dl] at ry
     exact k D ys G hD g1 hDG ry
abbrev E5 : Stmt := top 34
theorem Z5 : FnScope ["_law_found"] ["_law_found"] (Af E5) := ⟨rfl,rfl,rfl,by decide +kernel,rfl,by decide +kernel,by decide +kernel⟩
theorem c6 {f : Addr} {fd : FuncData} (F : Fun K "_law_whole" "_law_whole" E5 f fd) (T : Txt K mg C_Growth)  : FnOk P w K mg base CX0 1 f fd ["_law_found"] (D7 K) := by
 refine F.ok Z5 (fun vs H Q E h => ?_) (fun cdv A outer s H vs Q E hr h => ?_)
 . obtain ⟨x,d,rfl,hx,k⟩ := h
   rfl
 . obtain ⟨x,d,rfl,hx,k⟩ := h
   refine ⟨_,(Ag (Ap (Ve (Ao (C3 (K := K)) (by rfl) T.n_isinstance A4 (Aa (pv 0) (Aa (F1 (v := .ty "int") rfl T.n_int boot_intT rfl) Ad))) (Rt (At2 (Ao (C3 (K := K)) (by rfl) T.n_isinstance A4 (Aa (pv 0) (Aa (F1 (v := .ty "bool") rfl T.n_bool Sd rfl) Ad)))))))),?_⟩
   refine ⟨_,rfl,_,_,d,rfl,.inl rfl,hx,_,rfl,?_⟩
   refine ite2 (fun e => ?_) (fun e => ?_)
   . refine ⟨_,rfl,_,_,d,rfl,.inr (.inl rfl),hx,_,rfl,?_⟩
     have e2 : Dc d = !isD "bool" d := by unfold Dc; rw [e]; rfl
     rw [e2] at k
     exact k
   . have e2 : Dc d = false := by unfold Dc; simp [e]
     rw [e2] at k
     exact k
abbrev Df : Stmt := top 35
theorem U7 : FnScope ["_law_script","_law_k"] ["_law_script","_law_k"] (Af Df) := ⟨rfl,rfl,rfl,by decide +kernel,rfl,by decide +kernel,by decide +kernel⟩
theorem Vh {f : Addr} {fd : FuncData} (F : Fun K "_law_cell_at" "_law_cell_at" Df f fd) (T : Txt K mg C_Growth)  : FnOk P w K mg base CX0 1 f fd ["_law_script","_law_k"] (G6 K) := by
 refine F.ok U7 (fun vs H Q E h => ?_) (fun cdv A outer s H vs Q E hr h => ?_)
 . obtain ⟨a,ns,k,rfl,hS,h0,hl,kq⟩ := h
   rfl
 . obtain ⟨a,ns,k,rfl,hS,h0,hl,kq⟩ := h
   refine ⟨_,(Ac (A6 (Am Ls (pv 1) (Ao (Aj (K := K)) (by rfl) T.n_len PySem.boot_len (Aa (pv 0) Ad)) (Au _)) (Ag (Ap (Bc (A1 (K := K)) (pv 0) (pv 1) (fun _ _ => rfl)))) Aq)
    (Ag (Ap Ah))),?_⟩
   refine ⟨_,rfl,_,rfl,a,_,rfl,.inl hS,_,_,rfl,rfl,_,rfl,?_⟩
   refine ite2 (fun h1 => ?_) (fun h1 => ?_)
   . have h2 : k < (ns.length : Int) := by simpa using h1
     have e : atI (ns.map V.int) k = some (.int (Wg ns k)) := by
      obtain ⟨j,rfl⟩ := Int.eq_ofNat_of_zero_le h0
      refine Cl ?_
      have hj : j < ns.length := by omega
      rw [List.getElem?_map,List.getElem?_eq_getElem hj]
      simp [Wg,hj]
     exact ⟨_,rfl,_,rfl,a,_,k,_,rfl,rfl,hS,e,kq⟩
   . have h2 : ¬ k < (ns.length : Int) := by simpa using h1
     have e : Wg ns k = 0 := by
      unfold Wg
      have : ns.length <= k.toNat := by omega
      simp [this]
     rw [e] at kq
     exact kq
abbrev E8 : Stmt := top 36
theorem Z8 : FnScope ["_law_piece"] ["_law_piece"] (Af E8) := ⟨rfl,rfl,rfl,by decide +kernel,rfl,by decide +kernel,by decide +kernel⟩
theorem c9 {f : Addr} {fd : FuncData} (F : Fun K "_law_level" "_law_level" E8 f fd) (T : Txt K mg C_Growth)  : FnOk P w K mg base CX0 1 f fd ["_law_piece"] (Bx K) := by
 refine F.ok Z8 (fun vs H Q E h => ?_) (fun cdv A outer s H vs Q E hr h => ?_)
 . obtain ⟨x,ds,rfl,hx,k⟩ := h
   rfl
 . obtain ⟨x,ds,rfl,hx,k⟩ := h
   refine ⟨_,(Ag (Ap (Ao (Wn (by rfl)) (by rfl) T.n_max Fl (Aa Ah (Aa (Ay Kk (Ao (Aj (K := K)) (by rfl) T.n_len PySem.boot_len (Aa (pv 0) Ad)) Ah) Ad))))),?_⟩
   obtain ⟨p,us,e,hq,hl⟩ : ∃ (p : Addr) (us : List V),x = .ref p /\ (SqL K H p us \/ SqT K H p us) /\ us.length = ds.length := by
    rcases hx with ⟨p,us,e,hq,r⟩ | ⟨p,us,e,hq,r⟩
    . exact ⟨p,us,e,.inl hq,r.length⟩
    . exact ⟨p,us,e,.inr hq,r.length⟩
   subst e
   refine ⟨_,rfl,p,us,rfl,hq,_,_,rfl,rfl,_,_,rfl,?_⟩
   rw [hl]
   rw [show (if ((ds.length : Nat) : Int) - 1 > 0 then ((ds.length : Nat) : Int) - 1 else 0) = levI ds.length by unfold levI; split <;> split <;> omega]
   exact k
abbrev E7 : Stmt := top 37
theorem Z7 : FnScope ["_law_pieces","_law_faces","_law_face","_law_i"] ["_law_pieces","_law_faces","_law_face"] (Af E7) := ⟨rfl,rfl,rfl,by decide +kernel,rfl,by decide +kernel,by decide +kernel⟩
theorem g7 : (["_law_pieces","_law_faces","_law_face","_law_i"] : List Str).Nodup := by decide +kernel
theorem c8 {f : Addr} {fd : FuncData} (F : Fun K "_law_meets" "_law_meets" E7 f fd) (T : Txt K mg C_Growth)  : FnOk P w K mg base CX0 1 f fd ["_law_pieces","_law_faces","_law_face"] (J9 K) := by
 refine F.ok Z7 (fun vs H Q E h => ?_) (fun cdv A outer s H vs Q E hr h => ?_)
 . obtain ⟨a,v,xs,fs,f0,rfl,hL,hv,f1,f2,hg,hf4,hcase,k⟩ := h
   rfl
 . obtain ⟨a,v,xs,fs,f0,rfl,hL,hv,f1,f2,hg,hf4,hcase,k⟩ := h
   refine ⟨_,(Ac (A6 (Am Db (Ao (Aj (K := K)) (by rfl) T.n_len PySem.boot_len (Aa (Bc (A1 (K := K)) (pv 0) (pv 2) (fun _ _ => rfl)) Ad)) Ah (Au _)) (Ag (Ap Da)) Aq)
    (Ac (Cb PassesOwn.never rfl (B3 (by rfl) T.n_range (Aa (Ao (Aj (K := K)) (by rfl) T.n_len PySem.boot_len (Aa (pv 1) Ad)) Ad)) (As (i := 3) g7 (by rfl) (by first | exact Or.inl rfl | exact Or.inr rfl)) (Ag (A6 (Am Oe (Bc (Bb (K := K)) (Bc (A1 (K := K)) (pv 0) (pv 2) (fun _ _ => rfl)) (pv 3) (fun _ _ => rfl)) (Bc (Bb (K := K)) (Bc (A1 (K := K)) (pv 0) (Bc (Bb (K := K)) (pv 1) (pv 3) (fun _ _ => rfl)) (fun _ _ => rfl)) (Ay Kk (Ao (Aj (K := K)) (by rfl) T.n_len PySem.boot_len (Aa (pv 1) Ad)) Ah) (fun _ _ => rfl)) (Au _)) (Ag (Ap Da)) Aq)))
    (Ag (Ap Da)))),?_⟩
   obtain ⟨xu,vx,hxq,hvx,tvx⟩ := LT.get hL f1 f2
   obtain ⟨ax,rfl,sqx⟩ := TI.sq tvx
   obtain ⟨af,rfl,sqf⟩ := TI.sq hv
   refine ⟨_,rfl,_,rfl,a,xu,_,_,rfl,rfl,hxq,hvx,ax,_,rfl,.inr sqx,rfl,_,rfl,?_⟩
   rw [List.length_map]
   refine ite2 (fun h1 => ?_) (fun h1 => ?_)
   . have hz : (xs.getD f0.toNat []).length = 0 := by
      have : ((xs.getD f0.toNat []).length : Int) = 0 := by simpa using h1
      omega
     have e : meetsB xs fs f0 = true := by unfold meetsB; rw [decide_eq_true hz]; rfl
     rw [e] at k
     exact k
   have hne : ¬ (xs.getD f0.toNat []).length = 0 := fun z => h1 (by rw [z]; rfl)
   obtain ⟨c1,c2⟩ := hcase.resolve_left hne
   have em : meetsB xs fs f0 = (List.range fs.length).all fun i => decide ((xs.getD f0.toNat []).getD i 0 = (xs.getD (fs.getD i 0).toNat []).getD (fs.length - 1) 0) := by unfold meetsB; rw [decide_eq_false hne]; rfl
   refine ⟨_,rfl,af,_,rfl,.inr sqf,_,rfl,by rw [List.length_map]; omega,by rw [List.length_map]; omega,?_⟩
   rw [List.length_map]
   refine B4 (lo := 0) (n := fs.length) (fun i σ G => ∃ o3,σ = [some (.ref a),some (.ref af),some (.int f0),o3] /\ H = G /\ ∀ i',i' < i -> (xs.getD f0.toNat []).getD i' 0 = (xs.getD (fs.getD i' 0).toNat []).getD (fs.length - 1) 0) ⟨_,rfl,rfl,fun i' h => absurd h (by omega)⟩ ?_ ?_
   . rintro i σ G hi ⟨o3,rfl,rfl,hall⟩
     rw [show (0 : Int) + (i : Int) = (i : Int) by omega]
     have hgm := Ct (d := 0) hi
     obtain ⟨g0,g1⟩ := hg _ hgm
     have c3 := c2 _ hgm
     have hatf : atI (fs.map V.int) (i : Int) = some (.int (fs.getD i 0)) := by
      have := M3 (sp := fs) (x := (i : Int)) (by omega) (by omega)
      rwa [Int.toNat_natCast] at this
     have hatx : atI ((xs.getD f0.toNat []).map V.int) (i : Int) = some (.int ((xs.getD f0.toNat []).getD i 0)) := by
      have := M3 (sp := xs.getD f0.toNat []) (x := (i : Int)) (by omega) (by omega)
      rwa [Int.toNat_natCast] at this
     have hatg : atI ((xs.getD (fs.getD i 0).toNat []).map V.int) ((fs.length : Int) - 1) = some (.int ((xs.getD (fs.getD i 0).toNat []).getD (fs.length - 1) 0)) := by
      have := M3 (sp := xs.getD (fs.getD i 0).toNat []) (x := (fs.length : Int) - 1) (by omega) (by omega)
      rwa [show ((fs.length : Int) - 1).toNat = fs.length - 1 by omega] at this
     obtain ⟨gu,vg,hgq,hvg,tvg⟩ := LT.get hL g0 g1
     obtain ⟨ag,rfl,sqg⟩ := TI.sq tvg
     refine ⟨_,rfl,_,rfl,a,xu,_,_,rfl,rfl,hxq,hvx,_,rfl,ax,_,_,_,rfl,rfl,sqx,hatx,_,rfl,_,rfl,_,rfl,af,_,_,_,rfl,rfl,sqf,hatf,a,gu,_,_,rfl,rfl,hgq,hvg,_,rfl,af,_,rfl,.inr sqf,_,_,rfl,rfl,ag,_,_,_,rfl,rfl,sqg,(by rw [List.length_map]; exact hatg),rfl,_,rfl,?_⟩
     by_cases he : (xs.getD f0.toNat []).getD i 0 = (xs.getD (fs.getD i 0).toNat []).getD (fs.length - 1) 0
     . refine ifN (eqI he) ?_
       refine ⟨_,rfl,rfl,fun i' hi' => ?_⟩
       by_cases z : i' = i
       . subst z; exact he
       . exact hall i' (by omega)
     . refine ifP (neI he) ?_
       have e : meetsB xs fs f0 = false := by
        rw [em,List.all_eq_false]
        exact ⟨i,List.mem_range.mpr hi,by simpa using he⟩
       rw [e] at k
       exact k
   . rintro σ G ⟨o3,rfl,rfl,hall⟩
     have e : meetsB xs fs f0 = true := by
      rw [em,List.all_eq_true]
      exact fun i hi => decide_eq_true (hall i (List.mem_range.mp hi))
     rw [e] at k
     exact k
abbrev Ia : Stmt := top 39
theorem z8 : FnScope ["_law_cell","_law_j","_law_many","_law_mixed"] ["_law_cell","_law_j","_law_many"] (Af Ia) := ⟨rfl,rfl,rfl,by decide +kernel,rfl,by decide +kernel,by decide +kernel⟩
theorem Ae7 : (["_law_cell","_law_j","_law_many","_law_mixed"] : List Str).Nodup := by decide +kernel
theorem Ac5 {f : Addr} {fd : FuncData} (F : Fun K "_law_pick" "_law_pick" Ia f fd) (T : Txt K mg C_Growth)  : FnOk P w K mg base CX0 1 f fd ["_law_cell","_law_j","_law_many"] (Ka K) := by
 refine F.ok z8 (fun vs H Q E h => ?_) (fun cdv A outer s H vs Q E hr h => ?_)
 . obtain ⟨c,j,m,rfl,hm,k⟩ := h
   rfl
 . obtain ⟨c,j,m,rfl,hm,k⟩ := h
   refine ⟨_,(Ac (Aw (i := 3) Ae7 (by rfl) (by first | exact Or.inl rfl | exact Or.inr rfl) (Ay op_mulX (Ay Es (Ay Bm (pv 0) Ah) Ah) (Bc (Bb (K := K)) (Cd (Aa Ah (Aa Ah (Aa Ah (Aa Ah Ad))))) (Ay Bm (pv 1) Ah) (fun _ _ => rfl))))
    (Ag (Ap (Ay Bm (Ay Bm (pv 3) (Bc (Bb (K := K)) (Cd (Aa Ah (Aa Ah (Aa Ah (Aa Ah Ad))))) (Ay Bm (pv 1) Ah) (fun _ _ => rfl))) (pv 2))))),?_⟩
   have p4 : (0 : Int) < 4 := by decide
   have c0 := Int.emod_nonneg c (show (1000003 : Int) ≠ 0 by decide)
   have c1 := Int.emod_lt_of_pos c (show (0 : Int) < 1000003 by decide)
   have j0 := Int.emod_nonneg j (show (4 : Int) ≠ 0 by decide)
   have j1 := Int.emod_lt_of_pos j p4
   have four : ∀ a b c d : Int,0 < a -> 0 < b -> 0 < c -> 0 < d -> a < 100000 -> b < 100000 -> c < 100000 -> d < 100000 -> ∃ x : Int,atI [V.int a,V.int b,V.int c,V.int d] (j % 4) = some (.int x) /\ 0 < x /\ x < 100000 := fun a b c d a0 b0 c0 d0 a1 b1 c1 d1 => by
    rcases (show j % 4 = 0 \/ j % 4 = 1 \/ j % 4 = 2 \/ j % 4 = 3 by omega) with e | e | e | e <;> rw [e]
    . exact ⟨a,rfl,a0,a1⟩
    . exact ⟨b,rfl,b0,b1⟩
    . exact ⟨c,rfl,c0,c1⟩
    . exact ⟨d,rfl,d0,d1⟩
   refine Ar (fun σ' H' => ∃ x : Int,σ' = [some (.int c),some (.int j),some (.int m),some (.int x)] /\ Same H H') ?_ fun key => ?_
   rotate_left
   . refine ⟨_,rfl,_,_,rfl,rfl,(by show (0 : Int) < 1000003; decide),_,_,rfl,rfl,A9 (by simp),fun T1 hT1 => ?_⟩
     obtain ⟨x,hx,x0,x1⟩ := four 48271 69621 16807 39373 (by decide) (by decide) (by decide) (by decide) (by decide) (by decide) (by decide) (by decide)
     refine ⟨_,rfl,_,_,rfl,rfl,p4,T1,_,_,_,rfl,rfl,.of Ab,hx,_,_,rfl,rfl,Mx (by omega) (by omega),?_⟩
     exact key _ _ ⟨_,rfl,Same.new hT1⟩
   rintro _ H1 ⟨x,rfl,s1⟩
   refine ⟨_,rfl,A9 (by simp),fun T1 hT1 => ?_⟩
   obtain ⟨y,hy,y0,y1⟩ := four 65537 50021 99991 32749 (by decide) (by decide) (by decide) (by decide) (by decide) (by decide) (by decide) (by decide)
   refine ⟨_,rfl,_,_,rfl,rfl,p4,T1,_,_,_,rfl,rfl,.of Ab,hy,_,_,rfl,rfl,y0,_,rfl,_,_,rfl,rfl,hm,?_⟩
   exact k _ _ (s1.trans (Same.new hT1)) (Int.emod_nonneg _ (by omega)) (Int.emod_lt_of_pos _ hm)
abbrev Cz : Stmt := top 42
theorem S8 : FnScope ["_law_word","_law_family","_law_size","_law_faces","_law_i"] ["_law_word","_law_family"] (Af Cz) := ⟨rfl,rfl,rfl,by decide +kernel,rfl,by decide +kernel,by decide +kernel⟩
theorem F4 : (["_law_word","_law_family","_law_size","_law_faces","_law_i"] : List Str).Nodup := by decide +kernel
theorem Tk {f : Addr} {fd : FuncData} (F : Fun K "_law_faces_by" "_law_faces_by" Cz f fd) (T : Txt K mg C_Growth)  : FnOk P w K mg base CX0 1 f fd ["_law_word","_law_family"] (D0 K) := by
 refine F.ok S8 (fun vs H Q E h => ?_) (fun cdv A outer s H vs Q E hr h => ?_)
 . obtain ⟨v,w,fam,rfl,hv,hw,k⟩ := h
   rfl
 . obtain ⟨v,w,fam,rfl,hv,hw,k⟩ := h
   refine ⟨_,(Ac (Aw (i := 2) F4 (by rfl) (by first | exact Or.inl rfl | exact Or.inr rfl) (Ao (Aj (K := K)) (by rfl) T.n_len PySem.boot_len (Aa (pv 0) Ad)))
    (Ac (A6 (Am Db (pv 1) Ah (Au _)) (Ac (A6 (Am Ls (pv 2) Ah (Au _)) (Ag (Ap (Er Ad))) Aq)
    (Ag (Ap (Cr (N' := ["_law_i","_law_word"]) (cap := [none,some 0]) (by rfl) (by kernel_rfl) (B3 (by rfl) T.n_range (Aa (pv 2) Ad)) (fun _ _ _ _ => (As (i := 0) A58 (by rfl) (by first | exact Or.inl rfl | exact Or.inr rfl))) (fun _ _ _ _ => Dr) (fun _ _ _ _ => (Ay (Kr (K := K)) (Ep (F7 (K := K)) (pv 1) Jr (Fy (pv 0))) (Ep (F7 (K := K)) (pv 1) (Fy (Ay Es (pv 0) Ah)) Jr))))))) Aq)
    (Ac (A6 (Am Db (pv 2) Ah (Au _)) (Ag (Ap (Er Ad))) Aq)
    (Ac (A6 (Am Ls (pv 1) Ah (Au _)) (Ac (A6 (Am Db (pv 2) Ah (Au _)) (Ag (Ap (Er (Aa (Cd Ad) (Aa (Cd Ad) Ad))))) Aq)
    (Ag (Ap (Cr (N' := ["_law_letter"]) (cap := [none]) (by rfl) (by kernel_rfl) (L5 (K := K) (pv 0)) (fun _ _ _ _ => (As (i := 0) A59 (by rfl) (by first | exact Or.inl rfl | exact Or.inr rfl))) (fun _ _ _ _ => Dr) (fun _ _ _ _ => (Cd (Aa (pv 0) Ad))))))) Aq)
    (Ac (Aw (i := 3) F4 (by rfl) (by first | exact Or.inl rfl | exact Or.inr rfl) (Er (Aa (Ep (F7 (K := K)) (pv 0) (Fy Ah) Jr) Ad)))
    (Ac (Cb PassesOwn.never rfl (B3 (by rfl) T.n_range (Aa (Ay Kk (pv 2) Ah) Ad)) (As (i := 4) F4 (by rfl) (by first | exact Or.inl rfl | exact Or.inr rfl)) (Ag (Cc (Hg (K := K) PySem.F.plainAttrs_list PySem.F.slot_list_append PySem.F.type_list_append Ce (pv 3) (Aa (Ay (Kr (K := K)) (Ay (Kr (K := K)) (Ep (F7 (K := K)) (pv 0) Jr (Fy (pv 4))) (Cd (Aa (Ay Bm (Ay Es (Bc (Bb (K := K)) (pv 0) (pv 4) (fun _ _ => rfl)) (Bc (Bb (K := K)) (pv 0) (Ay Es (pv 4) Ah) (fun _ _ => rfl))) (pv 1)) Ad))) (Ep (F7 (K := K)) (pv 0) (Fy (Ay Es (pv 4) Ah)) Jr)) Ad)))))
    (Ac (Cc (Hg (K := K) PySem.F.plainAttrs_list PySem.F.slot_list_append PySem.F.type_list_append Ce (pv 3) (Aa (Ep (F7 (K := K)) (pv 0) Jr (Fy (Ay Kk (pv 2) Ah))) Ad)))
    (Ag (Ap (pv 3)))))))))),?_⟩
   obtain ⟨aw,rfl,hq⟩ := hv.sq
   have hlen : (w.map V.int).length = w.length := List.length_map ..
   have hl4 : w.length <= 4 := by rcases hw with z | z | z <;> omega
   refine ⟨_,rfl,aw,_,rfl,.inr hq,?_⟩
   rw [hlen]
   refine ⟨_,rfl,rfl,_,rfl,?_⟩
   refine ite2 (fun h1 => ?_) (fun h1 => ?_)
   . have hf : fam = 0 := by simpa using h1
     subst hf
     refine ⟨_,rfl,_,_,rfl,rfl,_,rfl,?_⟩
     refine ite2 (fun h2 => ?_) (fun h2 => ?_)
     . have h3 : w.length < 2 := by have : (w.length : Int) < 2 := by simpa using h2
                                    omega
       refine ⟨Nat.zero_le _,fun p hp => ?_⟩
       refine k p [] _ hp (Same.new hp) Ab ?_
       have e : Ai w 0 = [] := by unfold Ai; rw [if_pos rfl,if_pos h3]
       rw [e]
       rfl
     . have h3 : ¬ w.length < 2 := by have : ¬ (w.length : Int) < 2 := by simpa using h2
                                      omega
       have e : Ai w 0 = (List.range w.length).map fun i => w.take i ++ w.drop (i + 1) := by unfold Ai; rw [if_pos rfl,if_neg h3]
       rw [e] at k
       refine ⟨_,rfl,_,rfl,by omega,by omega,fun D hD => ?_⟩
       refine Pl (fun i ys τ H1 => i <= w.length /\ Same H H1 /\ H1 D = some (.lst ys) /\ Reps K H1 ys (((List.range i).map fun i => w.take i ++ w.drop (i + 1)).map tI) /\ ∃ o,τ = [o,some (.ref aw)])
        ⟨Nat.zero_le _,Same.new hD,Ab,rfl,none,rfl⟩ ?_ ?_
       . rintro i ys τ H1 hi ⟨hi1,s1,hD1,r1,o,rfl⟩
         have hi2 : i < w.length := by simpa using hi
         have hq1 : SqT K H1 aw (w.map V.int) := s1.seqT hq
         refine ⟨_,rfl,_,rfl,_,rfl,aw,_,rfl,hq1,?_,fun p1 H2 s2 q2 => ?_⟩
         . rw [hlen]; rintro ⟨_,z⟩
           rw [show ((0 : Int) + (i : Int)) = ((i : Nat) : Int) by omega,HT.sIx_nat] at z
           omega
         refine ⟨_,rfl,_,rfl,_,_,rfl,rfl,_,rfl,aw,_,rfl,s2.seqT hq1,?_,fun p2 H3 s3 q3 => ?_⟩
         . rw [hlen]; rintro ⟨z,_⟩
           rw [show ((0 : Int) + (i : Int) + 1) = ((i + 1 : Nat) : Int) by omega,HT.sIx_nat] at z
           omega
         rw [show ((0 : Int) + (i : Int)) = ((i : Nat) : Int) by omega,Nm] at q2
         rw [show ((0 : Int) + (i : Int) + 1) = ((i + 1 : Nat) : Int) by omega,Ul] at q3
         refine ⟨p1,p2,_,_,rfl,rfl,s3.seqT q2,q3,?_,fun p H4 s4 q4 => ?_⟩
         . refine A9 ?_
           simp only [List.length_take,List.length_drop,List.length_map]
           omega
         have s14 : Same H1 H4 := (s2.trans s3).trans s4
         have hD4 : H4 D = some (.lst ys) := s14 _ _ hD1
         have t4 : TI K H4 (.ref p) (w.take i ++ w.drop (i + 1)) := by
          refine TI.mk ?_
          rw [List.map_append,List.map_take,List.map_drop]
          exact q4
         have r4 : Reps K H4 ys (((List.range i).map fun i => w.take i ++ w.drop (i + 1)).map tI) := Reps.same s14 r1
         have hyl : ys.length = i := by have := r1.length; simpa using this
         refine ⟨hD4,Cq (by omega),by omega,(s1.trans s14).turn hD,Ab,?_,_,rfl⟩
         rw [List.range_succ,List.map_append]
         exact Fx hD4 r4 t4
       . rintro ys τ H1 ⟨_,s1,hD1,r1,_⟩
         rw [show ((w.length : Int)).toNat = w.length by omega] at r1
         exact k D ys H1 hD s1 hD1 r1
   . have hf : ¬ fam = 0 := by simpa using h1
     refine ⟨_,rfl,rfl,_,rfl,?_⟩
     refine ite2 (fun h2 => ?_) (fun h2 => ?_)
     . have h3 : w.length = 0 := by simpa using h2
       refine ⟨Nat.zero_le _,fun p hp => ?_⟩
       refine k p [] _ hp (Same.new hp) Ab ?_
       have e : Ai w fam = [] := by unfold Ai; rw [if_neg hf,if_pos h3]
       rw [e]
       rfl
     have h3 : ¬ w.length = 0 := by simpa using h2
     refine ⟨_,rfl,_,_,rfl,rfl,_,rfl,?_⟩
     refine ite2 (fun h4 => ?_) (fun h4 => ?_)
     . have h5 : fam < 0 := by simpa using h4
       refine ⟨_,rfl,rfl,_,rfl,?_⟩
       refine ite2 (fun h6 => ?_) (fun h6 => ?_)
       . have h7 : w.length = 1 := by
          have : (w.length : Int) = 1 := by simpa using h6
          omega
         have e : Ai w fam = [[],[]] := by unfold Ai; rw [if_neg hf,if_neg h3,if_pos h5,if_pos h7]
         rw [e] at k
         refine ⟨Nat.zero_le _,fun p1 hp1 => ⟨Nat.zero_le _,fun p2 hp2 => ⟨A9 (by simp),fun p hp => ?_⟩⟩⟩
         have s1 : Same H (upd H p1 (.tup [])) := Same.new hp1
         have s2 : Same (upd H p1 (.tup [])) (upd (upd H p1 (.tup [])) p2 (.tup [])) := Same.new hp2
         have s3 : Same (upd (upd H p1 (.tup [])) p2 (.tup [])) (upd (upd (upd H p1 (.tup [])) p2 (.tup [])) p (.lst [.ref p1,.ref p2])) := Same.new hp
         have hp0 : H p = none := (s1.trans s2).free hp
         refine k p _ _ hp0 ((s1.trans s2).trans s3) Ab ?_
         have t1 : TI K _ (.ref p1) [] := TI.mk (.of (s3 _ _ (s2 _ _ Ab)))
         have t2 : TI K _ (.ref p2) [] := TI.mk (.of (s3 _ _ Ab))
         exact ⟨_,_,rfl,t1,_,_,rfl,t2,rfl⟩
       . have h7 : ¬ w.length = 1 := by
          have : ¬ (w.length : Int) = 1 := by simpa using h6
          omega
         have e : Ai w fam = w.map fun l => [l] := by unfold Ai; rw [if_neg hf,if_neg h3,if_pos h5,if_neg h7]
         rw [e] at k
         refine ⟨_,rfl,aw,rfl,⟨_,hq⟩,fun D hD => ?_⟩
         refine Pk (xs := w.map V.int) (fun i ys τ H1 => i <= w.length /\ Same H H1 /\ H1 D = some (.lst ys) /\ Reps K H1 ys (((w.take i).map fun l => [l]).map tI) /\ ∃ o,τ = [o])
          ⟨Nat.zero_le _,Same.new hD,Ab,rfl,none,rfl⟩ (fun i ys τ H1 _ ⟨_,s1,_⟩ => s1.seqT hq) ?_ ?_
         . rintro i x ys τ H1 hx ⟨hi1,s1,hD1,r1,o,rfl⟩
           have hi2 : i < w.length := by have := (List.getElem?_eq_some_iff.mp hx).1; simpa using this
           have hx2 : x = .int w[i] := by
            rw [List.getElem?_map,List.getElem?_eq_getElem hi2] at hx
            simpa using hx.symm
           subst hx2
           refine ⟨_,rfl,A9 (by simp),fun p hp => ?_⟩
           have s2 : Same H1 (upd H1 p (.tup [.int w[i]])) := Same.new hp
           have hD4 := s2 _ _ hD1
           have t4 : TI K (upd H1 p (.tup [.int w[i]])) (.ref p) [w[i]] := TI.mk (.of Ab)
           have r4 := Reps.same s2 r1
           have hyl : ys.length = i := by have := r1.length; simp at this; omega
           refine ⟨hD4,Cq (by omega),by omega,(s1.trans s2).turn hD,Ab,?_,_,rfl⟩
           have e2 : (w.take (i + 1)).map (fun l => [l]) = (w.take i).map (fun l => [l]) ++ [[w[i]]] := by
            rw [List.take_succ,List.getElem?_eq_getElem hi2,List.map_append]
            rfl
           rw [e2]
           exact Fx hD4 r4 t4
         . rintro ys τ H1 ⟨_,s1,hD1,r1,_⟩
           rw [hlen,List.take_length] at r1
           exact k D ys H1 hD s1 hD1 r1
     have h5 : ¬ fam < 0 := by simpa using h4
     have hpos : 0 < fam := by omega
     have e : Ai w fam = w.drop 1 :: ((List.range (w.length - 1)).map fun i => w.take i ++ [(w.getD i 0 + w.getD (i + 1) 0) % fam] ++ w.drop (i + 2)) ++ [w.take (w.length - 1)] := by
      unfold Ai; rw [if_neg hf,if_neg h3,if_neg h5]
     rw [e] at k
     refine ⟨_,rfl,_,rfl,aw,_,rfl,hq,?_,fun p1 H1 s1 q1 => ⟨A9 (by simp),fun D hD => ?_⟩⟩
     . rw [hlen]; rintro ⟨z,_⟩
       rw [show (1 : Int) = ((1 : Nat) : Int) by omega,HT.sIx_nat] at z
       omega
     rw [show (1 : Int) = ((1 : Nat) : Int) by omega,Ul] at q1
     have hD0 : H D = none := s1.free hD
     have s2 : Same H1 (upd H1 D (.lst [.ref p1])) := Same.new hD
     have t1 : TI K (upd H1 D (.lst [.ref p1])) (.ref p1) (w.drop 1) := by
      refine TI.mk ?_
      rw [List.map_drop]
      exact s2.seqT q1
     have hn : ((w.length : Int) - 1).toNat = w.length - 1 := by omega
     refine ⟨_,rfl,_,_,rfl,rfl,_,rfl,by omega,by omega,B4 (lo := 0) (n := ((w.length : Int) - 1).toNat)
      (fun i σ H2 => ∃ (ys : List V) (o : Option V),σ = [some (.ref aw),some (.int fam),some (.int w.length),some (.ref D),o] /\ Same H H2 /\ H2 D = some (.lst ys) ∧
        Reps K H2 ys ((w.drop 1 :: ((List.range i).map fun i => w.take i ++ [(w.getD i 0 + w.getD (i + 1) 0) % fam] ++ w.drop (i + 2))).map tI))
      ⟨_,none,rfl,s1.trans s2,Ab,⟨_,_,rfl,t1,rfl⟩⟩ ?_ ?_⟩
     . rintro i σ H2 hi ⟨ys,o,rfl,sH,hD2,r2⟩
       rw [hn] at hi
       have hq2 : SqT K H2 aw (w.map V.int) := sH.seqT hq
       have c0 : ((0 : Int) + (i : Int)) = ((i : Nat) : Int) := by omega
       have c1 : ((0 : Int) + (i : Int) + 1) = ((i + 1 : Nat) : Int) := by omega
       have c2 : ((0 : Int) + (i : Int) + 2) = ((i + 2 : Nat) : Int) := by omega
       have at0 : atI (w.map V.int) ((0 : Int) + (i : Int)) = some (.int (w.getD i 0)) := by
        rw [c0]
        refine Cl ?_
        rw [List.getElem?_map,List.getElem?_eq_getElem (by omega)]
        simp [show i < w.length by omega]
       have at1 : atI (w.map V.int) ((0 : Int) + (i : Int) + 1) = some (.int (w.getD (i + 1) 0)) := by
        rw [c1]
        refine Cl ?_
        rw [List.getElem?_map,List.getElem?_eq_getElem (by omega)]
        simp [show i + 1 < w.length by omega]
       refine ⟨_,rfl,.inl ⟨rfl,_,SqL.of hD2⟩,?_⟩
       refine ⟨_,rfl,_,rfl,_,rfl,aw,_,rfl,hq2,?_,fun pa Ha sa qa => ?_⟩
       . rw [hlen]; rintro ⟨_,z⟩
         rw [c0,HT.sIx_nat] at z
         omega
       rw [c0,Nm] at qa
       refine ⟨_,rfl,_,rfl,aw,_,_,_,rfl,rfl,sa.seqT hq2,at0,_,rfl,_,rfl,_,_,rfl,rfl,aw,_,_,_,rfl,rfl,sa.seqT hq2,at1,_,_,rfl,rfl,_,rfl,_,_,rfl,rfl,hpos,A9 (by simp),fun pb hb => ?_⟩
       have sb : Same Ha (upd Ha pb (.tup [.int ((w.getD i 0 + w.getD (i + 1) 0) % fam)])) := Same.new hb
       refine ⟨pa,pb,_,_,rfl,rfl,sb.seqT qa,.of Ab,A9 (by simp; omega),fun pc Hc sc qc => ?_⟩
       have sac := (sa.trans sb).trans sc
       refine ⟨_,rfl,_,rfl,_,_,rfl,rfl,_,rfl,aw,_,rfl,sac.seqT hq2,?_,fun pd Hd sd qd => ?_⟩
       . rw [hlen]; rintro ⟨z,_⟩
         rw [c2,HT.sIx_nat] at z
         omega
       rw [c2,Ul] at qd
       refine ⟨pc,pd,_,_,rfl,rfl,sd.seqT qc,qd,A9 (by simp; omega),fun pe He se qe => ?_⟩
       have sall := (sac.trans sd).trans se
       have hDe := sall _ _ hD2
       have te : TI K He (.ref pe) (w.take i ++ [(w.getD i 0 + w.getD (i + 1) 0) % fam] ++ w.drop (i + 2)) := by
        refine TI.mk ?_
        simp only [List.map_append,List.map_take,List.map_drop,List.map_cons,List.map_nil]
        exact qe
       have hyl : ys.length = i + 1 := by have := r2.length; simpa using this
       refine ⟨D,_,_,rfl,rfl,hDe,Cq (by omega),?_⟩
       refine ⟨_,_,rfl,(sH.trans sall).turn hD0,Ab,?_⟩
       have e3 : (w.drop 1 :: ((List.range (i + 1)).map fun i => w.take i ++ [(w.getD i 0 + w.getD (i + 1) 0) % fam] ++ w.drop (i + 2))) =
        (w.drop 1 :: ((List.range i).map fun i => w.take i ++ [(w.getD i 0 + w.getD (i + 1) 0) % fam] ++ w.drop (i + 2))) ++ [w.take i ++ [(w.getD i 0 + w.getD (i + 1) 0) % fam] ++ w.drop (i + 2)] := by
        rw [List.range_succ,List.map_append]
        rfl
       rw [e3]
       exact Fx hDe (Reps.same sall r2) te
     . rintro σ H2 ⟨ys,o,rfl,sH,hD2,r2⟩
       rw [hn] at r2
       have hq2 : SqT K H2 aw (w.map V.int) := sH.seqT hq
       have c1 : ((w.length : Int) - 1) = ((w.length - 1 : Nat) : Int) := by omega
       refine ⟨_,rfl,.inl ⟨rfl,_,SqL.of hD2⟩,_,rfl,_,rfl,_,_,rfl,rfl,_,rfl,aw,_,rfl,hq2,?_,fun pa Ha sa qa => ?_⟩
       . rw [hlen]; rintro ⟨_,z⟩
         rw [c1,HT.sIx_nat] at z
         omega
       rw [c1,Nm] at qa
       have hDa := sa _ _ hD2
       have ta : TI K Ha (.ref pa) (w.take (w.length - 1)) := by
        refine TI.mk ?_
        rw [List.map_take]
        exact qa
       have hyl : ys.length = w.length := by have := r2.length; simp at this; omega
       refine ⟨D,_,_,rfl,rfl,hDa,Cq (by omega),?_⟩
       refine ⟨_,rfl,?_⟩
       exact k D _ _ hD0 ((sH.trans sa).turn hD0) Ab (Fx hDa (Reps.same sa r2) ta)
abbrev De : Stmt := top 43
theorem U6 : FnScope ["_law_cell","_law_family","_law_letters","_law_size","_law_base","_law_word","_law_k"] ["_law_cell","_law_family","_law_letters"] (Af De) := ⟨rfl,rfl,rfl,by decide +kernel,rfl,by decide +kernel,by decide +kernel⟩
theorem Bd : (["_law_cell","_law_family","_law_letters","_law_size","_law_base","_law_word","_law_k"] : List Str).Nodup := by decide +kernel
theorem Vg {f : Addr} {fd : FuncData} (F : Fun K "_law_word_by" "_law_word_by" De f fd) (T : Txt K mg C_Growth)  : FnOk P w K mg base CX0 1 f fd ["_law_cell","_law_family","_law_letters"] (G5 K) := by
 refine F.ok U6 (fun vs H Q E h => ?_) (fun cdv A outer s H vs Q E hr h => ?_)
 . obtain ⟨c,fam,letters,rfl,hl0,hl1,hf,k⟩ := h
   rfl
 . obtain ⟨c,fam,letters,rfl,hl0,hl1,hf,k⟩ := h
   refine ⟨_,(Ac (Aw (i := 0) Bd (by rfl) (by first | exact Or.inl rfl | exact Or.inr rfl) (Ay Bm (pv 0) Ah))
    (Ac (Aw (i := 3) Bd (by rfl) (by first | exact Or.inl rfl | exact Or.inr rfl) (Ay Bm (pv 0) Ah))
    (Ac (Aw (i := 4) Bd (by rfl) (by first | exact Or.inl rfl | exact Or.inr rfl) (pv 2))
    (Ac (A6 (Am Db (pv 1) Ah (Au _)) (Ag (Aw (i := 3) Bd (by rfl) (by first | exact Or.inl rfl | exact Or.inr rfl) (Ay Es (pv 3) Ah))) Aq)
    (Ac (A6 (PW.pt (Kg (Am Ls (pv 1) Ah (Au _)) (Fw (Am Oe (pv 3) Ah (Au _))))) (Ag (Aw (i := 3) Bd (by rfl) (by first | exact Or.inl rfl | exact Or.inr rfl) Ah)) Aq)
    (Ac (A6 (Am Ac2 (pv 1) Ah (Au _)) (Ag (Aw (i := 4) Bd (by rfl) (by first | exact Or.inl rfl | exact Or.inr rfl) (pv 1))) Aq)
    (Ac (Aw (i := 0) Bd (by rfl) (by first | exact Or.inl rfl | exact Or.inr rfl) (Ay F2 (pv 0) Ah))
    (Ac (Aw (i := 5) Bd (by rfl) (by first | exact Or.inl rfl | exact Or.inr rfl) (Cd Ad))
    (Ac (Cb PassesOwn.never rfl (B3 (by rfl) T.n_range (Aa (pv 3) Ad)) (As (i := 6) Bd (by rfl) (by first | exact Or.inl rfl | exact Or.inr rfl)) (Ac (Aw (i := 5) Bd (by rfl) (by first | exact Or.inl rfl | exact Or.inr rfl) (Ay (Kr (K := K)) (pv 5) (Cd (Aa (Ay Bm (pv 0) (pv 4)) Ad))))
    (Ag (Aw (i := 0) Bd (by rfl) (by first | exact Or.inl rfl | exact Or.inr rfl) (Ay F2 (pv 0) (pv 4))))))
    (Ag (Ap (pv 5)))))))))))),?_⟩
   have m1 : 0 <= c % 1000000 % 4 := Int.emod_nonneg _ (by decide)
   have m2 : c % 1000000 % 4 < 4 := Int.emod_lt_of_pos _ (by decide)
   refine ⟨_,rfl,_,_,rfl,rfl,(by show (0 : Int) < 1000000; decide),?_⟩
   refine ⟨_,rfl,_,_,rfl,rfl,(by show (0 : Int) < 4; decide),?_⟩
   refine ⟨_,rfl,?_⟩
   have fork : (fam = 0) \/ (fam < 0 /\ c % 1000000 % 4 = 1) \/ (fam < 0 /\ ¬ c % 1000000 % 4 = 1) \/ 0 < fam := by omega
   have nofam : ¬ fam = 0 -> ¬ (decide (V.int fam = V.int 0) = true) := fun z q => z (by simpa using q)
   have isfam : fam = 0 -> decide (V.int fam = V.int 0) = true := fun z => by simp [z]
   have hb0 : 0 < letters := hl0
   have hb1 : letters < 1073741824 := by omega
   rcases fork with hz | ⟨hz,h1⟩ | ⟨hz,h1⟩ | hz
   . refine ⟨_,rfl,rfl,_,rfl,?_⟩
     refine ifP (isfam hz) ?_
     refine ⟨_,rfl,_,_,rfl,rfl,?_⟩
     refine ⟨_,rfl,_,_,rfl,rfl,_,rfl,?_⟩
     refine ifN (by simp; omega) ?_
     refine ifN (by simp) ?_
     refine ⟨_,rfl,_,_,rfl,rfl,_,rfl,?_⟩
     refine ifN (by simp; omega) ?_
     have hW : ∀ w : List Int,w.length = (c % 1000000 % 4 + 1).toNat -> Word fam w := fun w e => .inl ⟨hz,by omega,by omega⟩
     refine ⟨_,rfl,_,_,rfl,rfl,⟨by decide,by decide⟩,Nat.zero_le _,fun p0 hp0 => ?_⟩
     refine ⟨_,rfl,_,rfl,by omega,by omega,?_⟩
     refine B4 (lo := 0) (n := (c % 1000000 % 4 + 1 : Int).toNat)
      (fun i σ H2 => ∃ (c' : Int) (v : V) (o : Option V) (w : List Int),σ = [some (.int c'),some (.int fam),some (.int letters),some (.int (c % 1000000 % 4 + 1)),some (.int letters),some v,o] /\ Same H H2 /\ TI K H2 v w /\ w.length = i)
      ⟨_,_,none,[],rfl,Same.new hp0,TI.mk (.of Ab),rfl⟩ ?_ ?_
     . rintro i σ H2 hi ⟨c',v,o,w,rfl,s2,tv,hwl⟩
       obtain ⟨a,rfl,hqa⟩ := tv.sq
       refine ⟨_,rfl,_,rfl,_,rfl,_,_,rfl,rfl,hb0,A9 (by simp),fun pt hpt => ?_⟩
       have s3 : Same H2 (upd H2 pt (.tup [.int (c' % letters)])) := Same.new hpt
       refine ⟨a,pt,_,_,rfl,rfl,s3.seqT hqa,.of Ab,A9 (by simp; omega),fun p3 H3 s4 q3 => ?_⟩
       refine ⟨_,rfl,_,rfl,_,_,rfl,rfl,⟨hb0,hb1⟩,?_⟩
       refine ⟨_,_,_,w ++ [c' % letters],rfl,(s2.trans s3).trans s4,TI.mk ?_,by simp [hwl]⟩
       rw [List.map_append]
       exact q3
     . rintro σ H2 ⟨c',v,o,w,rfl,s2,tv,hwl⟩
       exact ⟨_,rfl,k v H2 w s2 tv (hW w hwl)⟩
   . refine ⟨_,rfl,rfl,_,rfl,?_⟩
     refine ifN (nofam (by omega)) ?_
     refine ⟨_,rfl,_,_,rfl,rfl,_,rfl,?_⟩
     refine ifP (by simp; omega) ?_
     refine ⟨_,rfl,rfl,_,rfl,?_⟩
     refine ifN (eqI h1) ?_
     refine ⟨_,rfl,_,_,rfl,rfl,_,rfl,?_⟩
     refine ifN (by simp; omega) ?_
     have hW : ∀ w : List Int,w.length = (c % 1000000 % 4).toNat -> Word fam w := fun w e => .inr (.inl ⟨hz,by omega⟩)
     refine ⟨_,rfl,_,_,rfl,rfl,⟨by decide,by decide⟩,Nat.zero_le _,fun p0 hp0 => ?_⟩
     refine ⟨_,rfl,_,rfl,by omega,by omega,?_⟩
     refine B4 (lo := 0) (n := (c % 1000000 % 4 : Int).toNat)
      (fun i σ H2 => ∃ (c' : Int) (v : V) (o : Option V) (w : List Int),σ = [some (.int c'),some (.int fam),some (.int letters),some (.int (c % 1000000 % 4)),some (.int letters),some v,o] /\ Same H H2 /\ TI K H2 v w /\ w.length = i)
      ⟨_,_,none,[],rfl,Same.new hp0,TI.mk (.of Ab),rfl⟩ ?_ ?_
     . rintro i σ H2 hi ⟨c',v,o,w,rfl,s2,tv,hwl⟩
       obtain ⟨a,rfl,hqa⟩ := tv.sq
       refine ⟨_,rfl,_,rfl,_,rfl,_,_,rfl,rfl,hb0,A9 (by simp),fun pt hpt => ?_⟩
       have s3 : Same H2 (upd H2 pt (.tup [.int (c' % letters)])) := Same.new hpt
       refine ⟨a,pt,_,_,rfl,rfl,s3.seqT hqa,.of Ab,A9 (by simp; omega),fun p3 H3 s4 q3 => ?_⟩
       refine ⟨_,rfl,_,rfl,_,_,rfl,rfl,⟨hb0,hb1⟩,?_⟩
       refine ⟨_,_,_,w ++ [c' % letters],rfl,(s2.trans s3).trans s4,TI.mk ?_,by simp [hwl]⟩
       rw [List.map_append]
       exact q3
     . rintro σ H2 ⟨c',v,o,w,rfl,s2,tv,hwl⟩
       exact ⟨_,rfl,k v H2 w s2 tv (hW w hwl)⟩
   . refine ⟨_,rfl,rfl,_,rfl,?_⟩
     refine ifN (nofam (by omega)) ?_
     refine ⟨_,rfl,_,_,rfl,rfl,_,rfl,?_⟩
     refine ifP (by simp; omega) ?_
     refine ⟨_,rfl,rfl,_,rfl,?_⟩
     refine ifP (neI h1) ?_
     refine ⟨_,rfl,_,_,rfl,rfl,_,rfl,?_⟩
     refine ifN (by simp; omega) ?_
     have hW : ∀ w : List Int,w.length = (3 : Int).toNat -> Word fam w := fun w e => .inr (.inl ⟨hz,.inr (.inr e)⟩)
     refine ⟨_,rfl,_,_,rfl,rfl,⟨by decide,by decide⟩,Nat.zero_le _,fun p0 hp0 => ?_⟩
     refine ⟨_,rfl,_,rfl,by omega,by omega,?_⟩
     refine B4 (lo := 0) (n := (3 : Int).toNat)
      (fun i σ H2 => ∃ (c' : Int) (v : V) (o : Option V) (w : List Int),σ = [some (.int c'),some (.int fam),some (.int letters),some (.int (3)),some (.int letters),some v,o] /\ Same H H2 /\ TI K H2 v w /\ w.length = i)
      ⟨_,_,none,[],rfl,Same.new hp0,TI.mk (.of Ab),rfl⟩ ?_ ?_
     . rintro i σ H2 hi ⟨c',v,o,w,rfl,s2,tv,hwl⟩
       obtain ⟨a,rfl,hqa⟩ := tv.sq
       refine ⟨_,rfl,_,rfl,_,rfl,_,_,rfl,rfl,hb0,A9 (by simp),fun pt hpt => ?_⟩
       have s3 : Same H2 (upd H2 pt (.tup [.int (c' % letters)])) := Same.new hpt
       refine ⟨a,pt,_,_,rfl,rfl,s3.seqT hqa,.of Ab,A9 (by simp; omega),fun p3 H3 s4 q3 => ?_⟩
       refine ⟨_,rfl,_,rfl,_,_,rfl,rfl,⟨hb0,hb1⟩,?_⟩
       refine ⟨_,_,_,w ++ [c' % letters],rfl,(s2.trans s3).trans s4,TI.mk ?_,by simp [hwl]⟩
       rw [List.map_append]
       exact q3
     . rintro σ H2 ⟨c',v,o,w,rfl,s2,tv,hwl⟩
       exact ⟨_,rfl,k v H2 w s2 tv (hW w hwl)⟩
   . refine ⟨_,rfl,rfl,_,rfl,?_⟩
     refine ifN (nofam (by omega)) ?_
     refine ⟨_,rfl,_,_,rfl,rfl,_,rfl,?_⟩
     refine ifN (by simp; omega) ?_
     refine ifN (by simp) ?_
     refine ⟨_,rfl,_,_,rfl,rfl,_,rfl,?_⟩
     refine ifP (by simp; omega) ?_
     refine ⟨_,rfl,?_⟩
     have hW : ∀ w : List Int,w.length = (c % 1000000 % 4).toNat -> Word fam w := fun w e => .inr (.inr ⟨hz,by omega⟩)
     have hb0 : 0 < fam := hz
     have hb1 : fam < 1073741824 := by omega
     refine ⟨_,rfl,_,_,rfl,rfl,⟨by decide,by decide⟩,Nat.zero_le _,fun p0 hp0 => ?_⟩
     refine ⟨_,rfl,_,rfl,by omega,by omega,?_⟩
     refine B4 (lo := 0) (n := (c % 1000000 % 4 : Int).toNat)
      (fun i σ H2 => ∃ (c' : Int) (v : V) (o : Option V) (w : List Int),σ = [some (.int c'),some (.int fam),some (.int letters),some (.int (c % 1000000 % 4)),some (.int fam),some v,o] /\ Same H H2 /\ TI K H2 v w /\ w.length = i)
      ⟨_,_,none,[],rfl,Same.new hp0,TI.mk (.of Ab),rfl⟩ ?_ ?_
     . rintro i σ H2 hi ⟨c',v,o,w,rfl,s2,tv,hwl⟩
       obtain ⟨a,rfl,hqa⟩ := tv.sq
       refine ⟨_,rfl,_,rfl,_,rfl,_,_,rfl,rfl,hb0,A9 (by simp),fun pt hpt => ?_⟩
       have s3 : Same H2 (upd H2 pt (.tup [.int (c' % fam)])) := Same.new hpt
       refine ⟨a,pt,_,_,rfl,rfl,s3.seqT hqa,.of Ab,A9 (by simp; omega),fun p3 H3 s4 q3 => ?_⟩
       refine ⟨_,rfl,_,rfl,_,_,rfl,rfl,⟨hb0,hb1⟩,?_⟩
       refine ⟨_,_,_,w ++ [c' % fam],rfl,(s2.trans s3).trans s4,TI.mk ?_,by simp [hwl]⟩
       rw [List.map_append]
       exact q3
     . rintro σ H2 ⟨c',v,o,w,rfl,s2,tv,hwl⟩
       exact ⟨_,rfl,k v H2 w s2 tv (hW w hwl)⟩
abbrev E6 : Stmt := top 47
theorem Z6 : FnScope ["_law_cell","_law_primes"] ["_law_cell"] (Af E6) := ⟨rfl,rfl,rfl,by decide +kernel,rfl,by decide +kernel,by decide +kernel⟩
theorem g6 : (["_law_cell","_law_primes"] : List Str).Nodup := by decide +kernel
theorem c7 {f : Addr} {fd : FuncData} (F : Fun K "_law_prime" "_law_prime" E6 f fd) (T : Txt K mg C_Growth)  : FnOk P w K mg base CX0 1 f fd ["_law_cell"] (Jo K) := by
 refine F.ok Z6 (fun vs H Q E h => ?_) (fun cdv A outer s H vs Q E hr h => ?_)
 . obtain ⟨c,rfl,k⟩ := h
   rfl
 . obtain ⟨c,rfl,k⟩ := h
   refine ⟨_,(Ac (Ao0 (N' := ["_law_n"]) (cap := [none]) (xc := "_law_n") (i := 1) g6 (by rfl) (by first | exact Or.inl rfl | exact Or.inr rfl) (by rfl) (by kernel_rfl) (fun _ _ => rfl) (fun _ => rfl) (Oc (by rfl) T.n_range (Aa Ah (Aa Ah Ad))) (fun _ _ _ _ _ => (As (i := 0) A55 (by rfl) (by first | exact Or.inl rfl | exact Or.inr rfl))) (fun _ _ _ _ _ => (G8 (Am Db (Ao (Aj (K := K)) (by rfl) T.n_len PySem.boot_len (Aa (Cr (N' := ["_law_k","_law_n"]) (cap := [none,some 0]) (by rfl) (by kernel_rfl) (Oc (by rfl) T.n_range (Aa Ah (Aa (pv 0) Ad))) (fun _ _ _ _ => (As (i := 0) A54 (by rfl) (by first | exact Or.inl rfl | exact Or.inr rfl))) (fun _ _ _ _ => (G8 (Am Db (Ay Bm (pv 1) (pv 0)) Ah (Au _)))) (fun _ _ _ _ => (pv 0))) Ad)) Ah (Au _)))) (fun _ _ _ _ _ => (pv 0)))
    (Ac (A6 (Am Db (Ay Bm (pv 0) Ah) Ah (Au _)) (Ag (Ap (Bc (A1 (K := K)) (pv 1) (Ay Bm (Ay F2 (pv 0) Ah) Ah) (fun _ _ => rfl)))) Aq)
    (Ag (Ap (Bc (A1 (K := K)) (pv 1) (Ay Bm (Ay F2 (pv 0) Ah) Ah) (fun _ _ => rfl)))))),?_⟩
   refine Ar (fun σ' H' => ∃ (P : Addr),σ' = [some (.int c),some (.ref P)] /\ Same H H' /\ H' P = some (.lst ((prs 96).map V.int))) ?_ fun key => ?_
   rotate_left
   . refine ⟨_,_,rfl,⟨by decide,by decide,by decide,by decide⟩,fun D hD => ?_⟩
     refine Fh (fun i ys τ H1 => i <= 96 /\ Same H H1 /\ H1 D = some (.lst ys) /\ ys = (prs i).map V.int /\ ∃ o,τ = [o])
      ⟨Nat.zero_le _,Same.new hD,Ab,rfl,none,rfl⟩ ?_ ?_
     . rintro i ys τ H1 hi ⟨_,s1,hD1,hys,o,rfl⟩
       have hi96 : i < 96 := hi
       refine ⟨_,rfl,_,_,rfl,⟨by decide,by decide,by omega,by omega⟩,fun D2 hD2 => ?_⟩
       refine Fh (fun j zs τ' H2 => j <= i /\ Same H1 H2 /\ H2 D2 = some (.lst zs) /\ zs = (dvs (2 + (i : Int)) j).map V.int /\ ∃ o,τ' = [o,some (.int (2 + (i : Int)))])
        ⟨Nat.zero_le _,Same.new hD2,Ab,rfl,none,rfl⟩ ?_ ?_
       . rintro j zs τ' H2 hj ⟨_,s2,hD22,hzs,o',rfl⟩
         have hji : j < i := by omega
         refine ⟨_,rfl,_,rfl,_,_,rfl,rfl,(by show (0 : Int) < 2 + (j : Int); omega),rfl,_,rfl,?_⟩
         have zl : zs.length <= j := by rw [hzs,List.length_map]; exact A03 ..
         refine ite2 (fun h1 => ?_) (fun h1 => ?_)
         . have h2 : (2 + (i : Int)) % (2 + (j : Int)) = 0 := by simpa using h1
           refine ⟨_,rfl,hD22,Cq (by omega),by omega,s2.turn hD2,Ab,?_,_,rfl⟩
           rw [Zh,if_pos h2,List.map_append,hzs]
           rfl
         . have h2 : ¬ (2 + (i : Int)) % (2 + (j : Int)) = 0 := by simpa using h1
           refine ⟨by omega,s2,hD22,?_,_,rfl⟩
           rw [Zh,if_neg h2]
           exact hzs
       . rintro zs τ' H2 ⟨_,s2,hD22,hzs,_⟩
         refine ⟨D2,zs,rfl,.inl (.of hD22),rfl,_,rfl,?_⟩
         have hD3 := s2 _ _ hD1
         have yl : ys.length <= i := by rw [hys,List.length_map]; exact Aw1 ..
         have hz : (zs.length = 0) ↔ isP (2 + (i : Int)) = true := by
          rw [← Ar5,hzs,List.length_map,show (2 + (i : Int) - 2).toNat = i by omega]
         refine ite2 (fun h1 => ?_) (fun h1 => ?_)
         . have h2 : zs.length = 0 := by
            have : (zs.length : Int) = 0 := by simpa using h1
            omega
           refine ⟨_,rfl,hD3,Cq (by omega),by omega,(s1.trans s2).turn hD,Ab,?_,_,rfl⟩
           rw [Y7,if_pos (hz.mp h2),List.map_append,hys]
           rfl
         . have h2 : ¬ zs.length = 0 := by
            intro z
            apply h1
            simp [z]
           refine ⟨by omega,s1.trans s2,hD3,?_,_,rfl⟩
           rw [Y7,if_neg (fun z => h2 (hz.mpr z))]
           exact hys
     . rintro ys τ H1 ⟨_,s1,hD1,hys,_⟩
       refine key _ _ ⟨D,rfl,s1,?_⟩
       rw [hD1,hys]
       rfl
   rintro _ H1 ⟨P,rfl,s1,hP⟩
   have at25 : ∀ x : Int,0 <= x -> x < 25 -> ∃ p : Int,atI ((prs 96).map V.int) x = some (.int p) /\ p ∈ prs 96 := fun x c0 c1 => by
    obtain ⟨j,rfl⟩ := Int.eq_ofNat_of_zero_le c0
    have hj25 : j < (prs 96).length := by rw [A33]; omega
    refine ⟨(prs 96)[j],?_,List.getElem_mem hj25⟩
    exact Cl (j := j) (by rw [List.getElem?_map,List.getElem?_eq_getElem hj25]; rfl)
   have fin : ∀ p : Int,p ∈ prs 96 -> Q (.int p) H1 := fun p hp => by
    obtain ⟨hpr,hp98⟩ := Aw0 hp
    exact k p H1 s1 hpr hp98
   refine ⟨_,rfl,_,_,rfl,rfl,(by show (0 : Int) < 2; decide),rfl,_,rfl,?_⟩
   refine ite2 (fun _ => ?_) (fun _ => ?_)
   . obtain ⟨p,hat,hp⟩ := at25 (c / 2 % 4) (Int.emod_nonneg _ (by decide)) (by have := Int.emod_lt_of_pos (c / 2) (show (0 : Int) < 4 by decide); omega)
     exact ⟨_,rfl,_,rfl,_,_,rfl,rfl,⟨by decide,by decide⟩,_,_,rfl,rfl,(by show (0 : Int) < 4; decide),P,_,_,_,rfl,rfl,.of hP,hat,fin p hp⟩
   . obtain ⟨p,hat,hp⟩ := at25 (c / 2 % 25) (Int.emod_nonneg _ (by decide)) (Int.emod_lt_of_pos (c / 2) (show (0 : Int) < 25 by decide))
     exact ⟨_,rfl,_,rfl,_,_,rfl,rfl,⟨by decide,by decide⟩,_,_,rfl,rfl,(by show (0 : Int) < 25; decide),P,_,_,_,rfl,rfl,.of hP,hat,fin p hp⟩
abbrev Fu : Stmt := top 48
theorem Aa1 : FnScope ["_law_pieces","_law_paper","_law_prime_here","_law_total","_law_place","_law_number","_law_sign","_law_face"] ["_law_pieces","_law_paper","_law_prime_here"] (Af Fu) := ⟨rfl,rfl,rfl,by decide +kernel,rfl,by decide +kernel,by decide +kernel⟩
theorem Fd : (["_law_pieces","_law_paper","_law_prime_here","_law_total","_law_place","_law_number","_law_sign","_law_face"] : List Str).Nodup := by decide +kernel
theorem Ac8 {f : Addr} {fd : FuncData} (F : Fun K "_law_edge" "_law_edge" Fu f fd) (T : Txt K mg C_Growth)  : FnOk P w K mg base CX0 1 f fd ["_law_pieces","_law_paper","_law_prime_here"] (Sy K) := by
 refine F.ok Aa1 (fun vs H Q E h => ?_) (fun cdv A outer s H vs Q E hr h => ?_)
 . obtain ⟨a,d,xs,sm,p,rfl,hL,h4,hd,ok,kk,hsl,hp,hp98,k⟩ := h
   rfl
 . obtain ⟨a,d,xs,sm,p,rfl,hL,h4,hd,ok,kk,hsl,hp,hp98,k⟩ := h
   have hu8 : (A.deeper (PyProof.Rows.envOfC "_law_edge" (Af Fu) s.heap.objs.size f cdv)).units + 8 < cLine := by have := hr.units; omega
   refine ⟨_,(Ac (Aw (i := 3) Fd (by rfl) (by first | exact Or.inl rfl | exact Or.inr rfl) Ki)
    (Ac (Aa6 (Cb PassesOwn.never rfl (Ic (pv 1)) (Eh (K := K) (n := 2) (by rfl) (A8 (As (i := 4) Fd (by rfl) (by first | exact Or.inl rfl | exact Or.inr rfl)) (A8 (As (i := 5) Fd (by rfl) (by first | exact Or.inl rfl | exact Or.inr rfl)) Ef))) (Ac (Aw (i := 6) Fd (by rfl) (by first | exact Or.inl rfl | exact Or.inr rfl) Ah)
    (Ag (Cb PassesOwn.never rfl (L5 (K := K) (Bc (A1 (K := K)) (pv 0) (pv 4) (fun _ _ => rfl))) (As (i := 7) Fd (by rfl) (by first | exact Or.inl rfl | exact Or.inr rfl)) (Ac (Ta (u1 hu8) (pv 3) (pv 7) (Ay Es (Y8 (u1 hu8) (pv 3) (pv 7) Ah ⟨by rfl,by rfl,by rfl,by rfl⟩) (Ay op_mulX (pv 6) (pv 5))) (by rfl))
    (Ag (Aw (i := 6) Fd (by rfl) (by first | exact Or.inl rfl | exact Or.inr rfl) (Xq Nn (pv 6))))))))))
    (Ag (Ap (Ab6 (Cr (N' := ["_law_face","_law_number","_law_prime_here"]) (cap := [none,none,some 2]) (by rfl) (by kernel_rfl) (Ic (pv 3)) (fun _ _ _ _ => (Eh (K := K) (n := 2) (by rfl) (A8 (As (i := 0) At3 (by rfl) (by first | exact Or.inl rfl | exact Or.inr rfl)) (A8 (As (i := 1) At3 (by rfl) (by first | exact Or.inl rfl | exact Or.inr rfl)) Ef)))) (fun _ _ _ _ => (G8 (Am Oe (Ay Bm (pv 1) (pv 2)) Ah (Au _)))) (fun _ _ _ _ => (pv 0)))))))),?_⟩
   refine Ar (fun σ' H' => ∃ T : Addr,σ' = [some (.ref a),some (.ref d),some (.int p),some (.ref T),none,none,none,none] /\ H T = none /\ Same H H' /\ H' T = some (.dK (cK []))) ?_ fun key => ?_
   rotate_left
   . exact fun T hT => key _ _ ⟨T,rfl,hT,Same.new hT,Ab⟩
   rintro _ H1 ⟨T,rfl,hT,s1,eT⟩
   have hL1 := Rep.same s1 hL
   have hd1 := s1 _ _ hd
   have nTd : d ≠ T := Ak hd hT
   refine Ar (fun σ' H' => ∃ (tot : Ms) (o4 o5 o6 o7 : Option V),σ' = [some (.ref a),some (.ref d),some (.int p),some (.ref T),o4,o5,o6,o7] /\ Same H H' /\ H' T = some (.dK (cK tot)) /\ nd tot /\ tot.length <= 4000 /\ ∀ x,getI tot x = sumP sm fun j => oft (xs.getD j.toNat []) x) ?_ fun key => ?_
   rotate_left
   . refine .inr ⟨d,cK sm,hd1,fun hnd o => ?_⟩
     refine ⟨_,rfl,d,o,cK sm,rfl,Ab,?_⟩
     refine O2 (d := d) (o := o) (kvs := cK sm) (fun i σ G => ∃ (tot : Ms) (o4 o5 o6 o7 : Option V),σ = [some (.ref a),some (.ref d),some (.int p),some (.ref T),o4,o5,o6,o7] /\ G d = some (.frz o (.dK (cK sm))) /\ G T = some (.dK (cK tot)) /\ nd tot /\ tot.length <= 4 * i /\ (∀ x,getI tot x = sumP (sm.take i) fun j => oft (xs.getD j.toNat []) x) /\ (∀ c q,c ≠ d -> c ≠ T -> H1 c = some q -> G c = some q))
      ⟨[],none,none,none,none,rfl,Ab,?_,by simp [nd],Nat.zero_le _,fun x => by rw [T7]; rfl,?_⟩ (fun i σ G _ ⟨_,_,_,_,_,_,e,_⟩ => e) ?_ ?_
     . rw [Ae nTd.symm]; exact eT
     . intro c q n1 n2 e
       rw [Ae n1]; exact e
     . rintro i ky x σ G pr hx ⟨tot,o4,o5,o6,o7,rfl,hdG,hTG,ndt,tl,htot,hkG⟩ hpr
       obtain ⟨q,hq,rfl,rfl⟩ := Sa hx
       have hlt : i < sm.length := (List.getElem?_eq_some_iff.mp hq).1
       have hqm := List.mem_of_getElem? hq
       obtain ⟨q0,q1⟩ := kk q.1 (List.mem_map.mpr ⟨q,hqm,rfl⟩)
       obtain ⟨v0,v1⟩ := ok.bd q hqm
       have npd : d ≠ pr := Ak hdG hpr
       have npT : T ≠ pr := Ak hTG hpr
       have sp := Same.new (o := .tup [kV (.inl q.1),.int q.2]) hpr
       have hLG : LT K G (.ref a) xs := by
        have e1 : K9 d H1 (upd H1 d (.frz o (.dK (cK sm)))) := fun c r n e => by rw [Ae n]; exact e
        have l1 := Rep.x e1 hd1 hL1
        have d1 : (upd H1 d (.frz o (.dK (cK sm)))) T = some (.dK (cK [])) := by rw [Ae nTd.symm]; exact eT
        have e2 : K9 T (upd H1 d (.frz o (.dK (cK sm)))) G := fun c r n e => by
         by_cases z : c = d
         . subst z
           rw [Ab] at e
           cases e
           exact hdG
         . rw [Ae z] at e
           exact hkG c r z n e
        exact Rep.x (m := cK []) e2 d1 l1
       refine ⟨pr,_,rfl,.of Ab,rfl,_,_,rfl,_,_,rfl,rfl,?_⟩
       have hLG1 := Rep.same sp hLG
       have hdG1 := sp _ _ hdG
       have hTG1 := sp _ _ hTG
       have hkG1 : ∀ c q,c ≠ d -> c ≠ T -> H1 c = some q -> _ := fun c q n1 n2 e => sp _ _ (hkG c q n1 n2 e)
       generalize upd G pr (.tup [kV (.inl q.1),.int q.2]) = G1 at hLG1 hdG1 hTG1 hkG1 ⊢
       refine Au7 [some (.ref a),some (.ref d),some (.int p),some (.ref T),some (.int q.1),some (.int q.2),some (.int 1),o7] G1 (fun _ h => h) ?_
       obtain ⟨us,v,hus,hat,tv⟩ := LT.get hLG1 q0 q1
       obtain ⟨av,rfl,sqv⟩ := TI.sq tv
       have hfl : (xs.getD q.1.toNat []).length <= 4 := by
        rcases X5 (l := xs) (i := q.1.toNat) (d := []) with z | z
        . exact h4 _ z
        . rw [z]; exact Nat.zero_le _
       obtain ⟨fs,hfs⟩ : ∃ fs,fs = xs.getD q.1.toNat [] := ⟨_,rfl⟩
       rw [← hfs] at sqv hfl
       refine ⟨_,rfl,_,rfl,a,us,_,_,rfl,rfl,hus,hat,av,rfl,⟨_,sqv⟩,?_⟩
       refine Ah8 (K := K) (a := av) (xs := fs.map V.int) (fun m σ G2 => ∃ (tot2 : Ms) (o7 : Option V),σ = [some (.ref a),some (.ref d),some (.int p),some (.ref T),some (.int q.1),some (.int q.2),some (.int (sg m)),o7] /\ G2 T = some (.dK (cK tot2)) /\ nd tot2 /\ tot2.length <= 4 * i + m /\ (∀ x,getI tot2 x = (sumP (sm.take i) fun j => oft (xs.getD j.toNat []) x) + q.2 * oftN fs x m) /\ K9 T G1 G2)
        ⟨tot,o7,rfl,hTG1,ndt,tl,fun x => by rw [htot x,oftN,Int.mul_zero,Int.add_zero],fun c r n e => e⟩ (fun m σ G2 _ ⟨_,_,_,_,_,_,_,st⟩ => SqT.x st hTG1 sqv) ?_ ?_
       . rintro m y σ G2 hy ⟨tot2,o7,rfl,hT2,nd2,tl2,ht2,st⟩
         have hm : m < fs.length := by have := (List.getElem?_eq_some_iff.mp hy).1; simpa using this
         have hyv : y = .int (fs.getD m 0) := by
          rw [List.getElem?_map,List.getElem?_eq_getElem hm] at hy
          rw [List.getD_eq_getElem?_getD,List.getElem?_eq_getElem hm]
          simpa using hy.symm
         subst hyv
         have sgb : sg m = 1 \/ sg m = -1 := by unfold sg; omega
         refine ⟨_,rfl,T,rfl,.inl ⟨_,.inl hT2⟩,_,rfl,_,Ai7 (.inl hT2),_,rfl,_,rfl,_,_,rfl,rfl,Mx (by omega) (by omega),getI tot2 (fs.getD m 0),_,Al6 tot2 _,rfl,_,rfl,_,rfl,T,_,rfl,Uf hT2 (by omega),?_⟩
         refine ⟨_,rfl,_,rfl,?_⟩
         refine ⟨_,some (.int (fs.getD m 0)),?_,Ab,Ae4 nd2 _ _,?_,fun x => ?_,fun c r n e => ?_⟩
         . have : sg (m + 1) = -(sg m) := by unfold sg; omega
           rw [this]
           rfl
         . have := X8 tot2 (fs.getD m 0) (getI tot2 (fs.getD m 0) + sg m * q.2)
           omega
         . rw [Ar1,ht2 (fs.getD m 0),ht2 x]
           show _ = _ + q.2 * (if fs.getD m 0 = x then oftN fs x m + 1 - 2 * ((m : Int) % 2) else oftN fs x m)
           by_cases z : x = fs.getD m 0
           . rw [if_pos z,if_pos z.symm,← z,show oftN fs x m + 1 - 2 * ((m : Int) % 2) = oftN fs x m + sg m by unfold sg; omega,Int.mul_add,Int.mul_comm (sg m)]
             omega
           . rw [if_neg z,if_neg (fun y => z y.symm)]
         . rw [Ae n]; exact st c r n e
       . rintro σ G2 ⟨tot2,o7,rfl,hT2,nd2,tl2,ht2,st⟩
         rw [List.length_map] at ht2 tl2
         refine ⟨tot2,_,_,_,_,rfl,st _ _ nTd hdG1,hT2,nd2,by omega,fun x => ?_,fun c r n1 n2 e => st _ _ n2 (hkG1 c r n1 n2 e)⟩
         rw [ht2 x,v9 _ hq,← hfs]
         rfl
     . rintro σ G ⟨tot,o4,o5,o6,o7,rfl,hdG,hTG,ndt,tl,htot,hkG⟩
       rw [Ji] at htot tl
       rw [List.take_length] at htot
       refine ⟨hdG,key _ _ ⟨tot,o4,o5,o6,o7,rfl,fun c q e => ?_,by rw [Ae nTd.symm]; exact hTG,ndt,by omega,htot⟩⟩
       by_cases z : c = d
       . subst z
         rw [hd] at e
         cases e
         exact Ab
       . rw [Ae z]
         exact hkG c q z (Ak e hT) (s1 _ _ e)
   rintro _ H2 ⟨tot,o4,o5,o6,o7,rfl,s2,hT2,ndt,tl,htot⟩
   refine .inr ⟨T,cK tot,hT2,fun hnd o => ?_⟩
   refine ⟨_,rfl,T,o,cK tot,rfl,Ab,fun D hD => ?_⟩
   obtain ⟨hD0,nDT⟩ := T8 hD
   refine Mn (d := T) (o := o) (kvs := cK tot) (fun i zs τ G => zs = (Az (modI p (tot.take i))).map V.int /\ G T = some (.frz o (.dK (cK tot))) /\ G D = some (.lst zs) /\ K9 T H2 G /\ ∃ o1 o2,τ = [o1,o2,some (.int p)])
    ⟨rfl,?_,Ab,?_,none,none,rfl⟩ (fun i zs τ G _ ⟨_,e,_⟩ => e) ?_ ?_
   . rw [Ae nDT.symm]; exact Ab
   . intro c q n1 e2
     rw [Ae (Ak e2 hD0),Ae n1]
     exact e2
   . rintro i ky x zs τ G pr hx ⟨hzs,hTG,hDG,st,o1,o2,rfl⟩ hpr
     obtain ⟨q,hq,rfl,rfl⟩ := Sa hx
     have hlt : i < tot.length := (List.getElem?_eq_some_iff.mp hq).1
     have mt := mod_take (p := p) hq
     have zl : zs.length <= 4000 := by
      have h1 := Ae9 p (tot.take i)
      rw [List.length_take] at h1
      rw [hzs,List.length_map]
      unfold Az
      rw [List.length_map]
      omega
     have sp := Same.new (o := .tup [.int q.1,.int q.2]) hpr
     refine ⟨pr,_,rfl,.of Ab,rfl,_,_,rfl,_,_,rfl,rfl,?_⟩
     refine ⟨_,rfl,_,rfl,_,_,rfl,rfl,hp,rfl,_,rfl,?_⟩
     refine ite2 (fun h1 => ?_) (fun h1 => ?_)
     . have e : ¬ q.2 % p = 0 := by simpa using h1
       rw [if_neg e] at mt
       refine ⟨_,rfl,sp _ _ hDG,Cq (by omega),?_,?_,Ab,fun c r n1 e2 => ?_,_,_,rfl⟩
       . rw [mt,hzs]
         unfold Az
         rw [List.map_append,List.map_append]
         rfl
       . rw [Ae nDT.symm]; exact sp _ _ hTG
       . rw [Ae (fun z => by rw [z,hD0] at e2; cases e2)]
         exact sp _ _ (st c r n1 e2)
     . have e : q.2 % p = 0 := by simpa using h1
       rw [if_pos e] at mt
       exact ⟨by rw [mt]; exact hzs,sp _ _ hTG,sp _ _ hDG,fun c r n1 e2 => sp _ _ (st c r n1 e2),_,_,rfl⟩
   . rintro zs τ G ⟨hzs,hTG,hDG,st,_⟩
     rw [Ji,List.take_length] at hzs
     refine ⟨hTG,k D (Az (modI p tot)) _ (s2.free hD0) (fun c q e => ?_) (by rw [Ae nDT,hDG,hzs]) fun x => ?_⟩
     . have e2 := s2 _ _ e
       by_cases z : c = T
       . subst z
         rw [hT2] at e2
         cases e2
         exact Ab
       . rw [Ae z]
         exact st c q z e2
     . rw [← O1 (Zd ndt hp).nz,G9 ndt,htot x,Y0 _ xs.length sm ok.nd kk]
       have : sumN (fun j => getI sm (j : Int) * oft (xs.getD ((j : Nat) : Int).toNat []) x) xs.length = sumN (fun j => getI sm (j : Int) * oft (xs.getD j []) x) xs.length := Ax fun j _ => by rw [Int.toNat_natCast]
       rw [this]
abbrev Bk : Stmt := top 3
theorem Ll : FnScope ["thing","bound"] ["thing","bound"] (Af Bk) := ⟨rfl,rfl,rfl,by decide +kernel,rfl,by decide +kernel,by decide +kernel⟩
theorem Lv {f : Addr} {fd : FuncData} (F : Fun K "is_whole_below" "is_whole_below" Bk f fd) (T : Txt K mg C_Growth) (L9 : Has P w K mg base "is_whole" ["thing"] 1 (Fr K)) : FnOk P w K mg base CX0 2 f fd ["thing","bound"] (Br K) := by
 refine F.ok Ll (fun vs H Q E h => ?_) (fun cdv A outer s H vs Q E hr h => ?_)
 . obtain ⟨x,d,b,rfl,hx,k⟩ := h
   rfl
 . obtain ⟨x,d,b,rfl,hx,k⟩ := h
   refine ⟨_,(Ag (Ap (Ve (Al L9 hr (by rfl) (Aa (pv 0) Ad)) (Rt (Ap0 A41 Ls Ah (pv 0) (pv 1)))))),?_⟩
   refine ⟨_,rfl,x,d,rfl,hx,_,rfl,?_⟩
   refine ite2 (fun e => ?_) (fun e => ?_)
   . obtain ⟨i,rfl⟩ := Rq e
     cases (show x = .int i from hx)
     refine ⟨_,rfl,_,_,rfl,rfl,_,rfl,?_⟩
     refine ite2 (fun e1 => ?_) (fun e1 => ?_)
     . refine ⟨_,rfl,_,_,rfl,rfl,?_⟩
       have e2 : Pu (.int i) b = decide (i < b) := by show (decide (0 <= i) && decide (i < b)) = _; rw [e1]; rfl
       rw [e2] at k
       exact k
     . have e2 : Pu (.int i) b = false := by show (decide (0 <= i) && decide (i < b)) = _; simp at e1; simp; omega
       rw [e2] at k
       exact k
   . have e2 : Pu d b = false := by
      cases d <;> first | rfl | (exfalso; exact e rfl)
     rw [e2] at k
     exact k
abbrev Rs : Stmt := top 12
theorem Av7 : FnScope ["one","other","told","place","number"] ["one","other"] (Af Rs) := ⟨rfl,rfl,rfl,by decide +kernel,rfl,by decide +kernel,by decide +kernel⟩
theorem X2 : (["one","other","told","place","number"] : List Str).Nodup := by decide +kernel
theorem Ax6 {f : Addr} {fd : FuncData} (F : Fun K "plus" "plus" Rs f fd) (T : Txt K mg C_Growth) (Ij : Has P w K mg base "add_at" ["chain","place","number"] 1 (Gz K)) : FnOk P w K mg base CX0 2 f fd ["one","other"] (Xb K) := by
 refine F.ok Av7 (fun vs H Q E h => ?_) (fun cdv A outer s H vs Q E hr h => ?_)
 . obtain ⟨a,b,ms,ns,rfl,ha,hb,hm,hn,k⟩ := h
   rfl
 . obtain ⟨a,b,ms,ns,rfl,ha,hb,hm,hn,k⟩ := h
   refine ⟨_,(Ac (Aw (i := 2) X2 (by rfl) (by first | exact Or.inl rfl | exact Or.inr rfl) (C5 R9 (by rfl) T.n_dict Fm (Aa (pv 0) Ad)))
    (Ac (Aa6 (Cb PassesOwn.never rfl (Ic (pv 1)) (Eh (K := K) (n := 2) (by rfl) (A8 (As (i := 3) X2 (by rfl) (by first | exact Or.inl rfl | exact Or.inr rfl)) (A8 (As (i := 4) X2 (by rfl) (by first | exact Or.inl rfl | exact Or.inr rfl)) Ef))) (Ag (Cc (Al Ij hr (by rfl) (Aa (pv 2) (Aa (pv 3) (Aa (pv 4) Ad))))))))
    (Ag (Ap (pv 2))))),?_⟩
   refine ⟨_,rfl,a,cK ms,rfl,ha,fun D hD => ?_⟩
   have nDb : b ≠ D := Ak hb hD
   refine .inr ⟨b,cK ns,(by rw [Ae nDb]; exact hb),fun hnd o => ?_⟩
   refine ⟨_,rfl,b,o,cK ns,rfl,Ab,?_⟩
   refine O2 (d := b) (o := o) (kvs := cK ns) (fun i σ H1 => ∃ o1 o2,σ = [some (.ref a),some (.ref b),some (.ref D),o1,o2] /\ H1 b = some (.frz o (.dK (cK ns))) /\ H1 D = some (.dK (cK (Dg ms (ns.take i)))) /\ (∀ c q,c ≠ b -> c ≠ D -> H c = some q -> H1 c = some q))
    ⟨none,none,rfl,Ab,?_,?_⟩ (fun i σ H1 _ ⟨_,_,_,e,_⟩ => e) ?_ ?_
   . rw [Ae nDb.symm,Ab]
     rfl
   . intro c q n1 n2 e
     rw [Ae n1,Ae n2]
     exact e
   . rintro i kk x σ H1 p hx ⟨o1,o2,rfl,hb1,hD1,hk1⟩ hp
     obtain ⟨q,hq,rfl,rfl⟩ := Sa hx
     have npb : b ≠ p := Ak hb1 hp
     have npD : D ≠ p := Ak hD1 hp
     have hlt : i < ns.length := (List.getElem?_eq_some_iff.mp hq).1
     refine ⟨p,_,rfl,.of Ab,rfl,_,_,rfl,_,_,rfl,rfl,?_⟩
     refine ⟨_,rfl,_,rfl,_,rfl,D,Dg ms (ns.take i),q.1,q.2,rfl,(by rw [Ae npD]; exact hD1),?_,?_⟩
     . have := Nj (ns.take i) ms
       rw [List.length_take] at this
       omega
     . refine ⟨_,_,rfl,?_,?_,fun c r n1 n2 e => ?_⟩
       . rw [Ae nDb,Ae npb]; exact hb1
       . rw [Ab,Ab4 hq]
       . rw [Ae n2,Ae (Ak (hk1 c r n1 n2 e) hp)]
         exact hk1 c r n1 n2 e
   . rintro σ H1 ⟨o1,o2,rfl,hb1,hD1,hk1⟩
     rw [Ji,List.take_length] at hD1
     refine ⟨hb1,_,rfl,k D _ hD (fun c q e => ?_) (by rw [Ae nDb.symm]; exact hD1)⟩
     by_cases z : c = b
     . subst z
       rw [hb] at e
       cases e
       exact Ab
     . rw [Ae z]
       exact hk1 c q z (Ak e hD) e
abbrev Dd : Stmt := top 25
theorem U5 : FnScope ["chain","faces","number","i","face"] ["chain","faces","number"] (Af Dd) := ⟨rfl,rfl,rfl,by decide +kernel,rfl,by decide +kernel,by decide +kernel⟩
theorem Mw : (["chain","faces","number","i","face"] : List Str).Nodup := by decide +kernel
theorem Vf {f : Addr} {fd : FuncData} (F : Fun K "add_faces" "add_faces" Dd f fd) (T : Txt K mg C_Growth) (Ij : Has P w K mg base "add_at" ["chain","place","number"] 1 (Gz K)) : FnOk P w K mg base CX0 2 f fd ["chain","faces","number"] (Gy K) := by
 refine F.ok U5 (fun vs H Q E h => ?_) (fun cdv A outer s H vs Q E hr h => ?_)
 . obtain ⟨a,v,ms,fs,n,rfl,ha,hv,hm,kq⟩ := h
   rfl
 . obtain ⟨a,v,ms,fs,n,rfl,ha,hv,hm,kq⟩ := h
   refine ⟨_,(Ag (Cb PassesOwn.never rfl (Ao4 (K := K) (by rfl) T.n_enumerate (Aa (pv 1) Ad)) (Eh (K := K) (n := 2) (by rfl) (A8 (As (i := 3) Mw (by rfl) (by first | exact Or.inl rfl | exact Or.inr rfl)) (A8 (As (i := 4) Mw (by rfl) (by first | exact Or.inl rfl | exact Or.inr rfl)) Ef))) (Ag (Cc (Al Ij hr (by rfl) (Aa (pv 0) (Aa (pv 4) (Aa (Ao8 (Am Db (Ay Bm (pv 3) Ah) Ah (Au _)) (pv 2) (Xq Nn (pv 2))) Ad)))))))),?_⟩
   obtain ⟨af,rfl,sq⟩ := TI.sq hv
   refine ⟨_,rfl,af,rfl,⟨_,sq⟩,Ah9 (K := K) (a := af) (xs := fs.map V.int) (fun i σ H1 => ∃ o1 o2,σ = [some (.ref a),some (.ref af),some (.int n),o1,o2] /\ K9 a H H1 /\ H1 a = some (.dK (cK (K7 ms fs n i))))
    ⟨none,none,rfl,fun _ _ _ e => e,ha⟩ (fun i σ H1 _ ⟨_,_,_,s1,_⟩ => SqT.x s1 ha sq) ?_ ?_⟩
   . rintro i x σ H1 p hx ⟨o1,o2,rfl,s1,ha1⟩ hp
     have hi : i < fs.length := by have := (List.getElem?_eq_some_iff.mp hx).1; simpa using this
     have hxv : x = .int (fs.getD i 0) := by
      rw [List.getElem?_map,List.getElem?_eq_getElem hi] at hx
      rw [List.getD_eq_getElem?_getD,List.getElem?_eq_getElem hi]
      simpa using hx.symm
     subst hxv
     have sp : Same H1 (upd H1 p (.tup [.int i,.int (fs.getD i 0)])) := Same.new hp
     have ha2 := sp _ _ ha1
     have hl := Vr ms fs n i
     refine ⟨p,_,rfl,.of Ab,rfl,_,_,rfl,_,_,rfl,rfl,?_⟩
     have fin : ∀ m,m = sgn n i -> Gz K [.ref a,.int (fs.getD i 0),.int m] (upd H1 p (.tup [.int i,.int (fs.getD i 0)])) (fun v H' => ∃ o1 o2,([some (.ref a),some (.ref af),some (.int n),some (.int (i : Int)),some (.int (fs.getD i 0))] : St) = [some (.ref a),some (.ref af),some (.int n),o1,o2] /\ K9 a H H' /\ H' a = some (.dK (cK (K7 ms fs n (i + 1))))) E0 := by
      intro m hm2
      subst hm2
      refine ⟨a,K7 ms fs n i,_,_,rfl,ha2,by omega,_,_,rfl,fun c q n1 e => ?_,Ab⟩
      rw [Ae n1]
      exact sp _ _ (s1 c q n1 e)
     refine ⟨_,rfl,_,rfl,_,rfl,_,_,rfl,rfl,(by show (0 : Int) < 2; decide),rfl,_,rfl,?_⟩
     refine ite2 (fun h1 => ?_) (fun h1 => ?_)
     . have h2 : (i : Int) % 2 = 0 := by simpa using h1
       exact ⟨_,rfl,fin n (by unfold sgn; rw [if_pos h2])⟩
     . have h2 : ¬ (i : Int) % 2 = 0 := by simpa using h1
       exact ⟨_,rfl,_,rfl,fin (-n) (by unfold sgn; rw [if_neg h2])⟩
   . rintro σ H1 ⟨o1,o2,rfl,s1,ha1⟩
     rw [List.length_map] at ha1
     exact kq H1 s1 ha1
abbrev Ci : Stmt := top 29
theorem Qc : FnScope ["number","prime"] ["number","prime"] (Af Ci) := ⟨rfl,rfl,rfl,by decide +kernel,rfl,by decide +kernel,by decide +kernel⟩
theorem Qn {f : Addr} {fd : FuncData} (F : Fun K "turned_over" "turned_over" Ci f fd) (T : Txt K mg C_Growth) (Ds : Has P w K mg base "shared_divisor" ["one","other"] 1 (Xc K)) : FnOk P w K mg base CX0 2 f fd ["number","prime"] (Sw K) := by
 refine F.ok Qc (fun vs H Q E h => ?_) (fun cdv A outer s H vs Q E hr h => ?_)
 . obtain ⟨n,p,rfl,hp,hp98,hn,k⟩ := h
   rfl
 . obtain ⟨n,p,rfl,hp,hp98,hn,k⟩ := h
   refine ⟨_,(Ag (Ap (Ay Bm (Bc (Bb (K := K)) (Al Ds hr (by rfl) (Aa (pv 0) (Aa (pv 1) Ad))) Ah (fun _ _ => rfl)) (pv 1)))),?_⟩
   have hp2 := hp.two
   refine ⟨_,rfl,_,rfl,n,p,rfl,hp,hp98,hn,fun L x y H' s' hL hd => ?_⟩
   refine ⟨L,_,_,_,rfl,rfl,hL,rfl,_,rfl,_,_,rfl,rfl,(by show (0 : Int) < p; omega),?_⟩
   obtain ⟨q1,q2,q3⟩ := Ap3 hp2 hd
   exact k _ H' s' q1 q2 q3
abbrev Ft : Stmt := top 38
theorem Aa0 : FnScope ["_law_pieces","_law_thing","_law_face","_law_j"] ["_law_pieces","_law_thing"] (Af Ft) := ⟨rfl,rfl,rfl,by decide +kernel,rfl,by decide +kernel,by decide +kernel⟩
theorem Vo : (["_law_pieces","_law_thing","_law_face","_law_j"] : List Str).Nodup := by decide +kernel
theorem Ac7 {f : Addr} {fd : FuncData} (F : Fun K "_law_fits" "_law_fits" Ft f fd) (T : Txt K mg C_Growth) (Cf : Has P w K mg base "_law_level" ["_law_piece"] 1 (Bx K)) (Ff : Has P w K mg base "_law_meets" ["_law_pieces","_law_faces","_law_face"] 1 (J9 K)) (Bn : Has P w K mg base "_law_whole" ["_law_found"] 1 (D7 K)) : FnOk P w K mg base CX0 2 f fd ["_law_pieces","_law_thing"] (Nt K) := by
 refine F.ok Aa0 (fun vs H Q E h => ?_) (fun cdv A outer s H vs Q E hr h => ?_)
 . obtain ⟨a,th,e,xs,rfl,hL,hCn,hxl,hd,k⟩ := h
   rfl
 . obtain ⟨a,th,e,xs,rfl,hL,hCn,hxl,hd,k⟩ := h
   have hu8 : (A.deeper (PyProof.Rows.envOfC "_law_fits" (Af Ft) s.heap.objs.size f cdv)).units + 8 < cLine := by have := hr.units; omega
   refine ⟨_,(Ac (A6 (PW.pt (Kf (C0 (Ca (Ao (Wq (K := K)) (by rfl) T.n_isinstance A4 (Aa (pv 1) (Aa (F1 (v := .ty "tuple") rfl T.n_tuple Cw rfl) Ad))))) (Iz (Am (Eb (K := K) hu8) (Ao (Aj (K := K)) (by rfl) T.n_len PySem.boot_len (Aa (pv 1) Ad)) (Cd (Aa Ah (Aa Ah (Aa Ah (Aa Ah Ad))))) rfl)))) (Ag (Ap Da)) Aq)
    (Ac (Cb PassesOwn.never rfl (L5 (K := K) (pv 1)) (As (i := 2) Vo (by rfl) (by first | exact Or.inl rfl | exact Or.inr rfl)) (Ac (A6 (PW.pt (Kf (C0 (Ca (Al Bn hr (by rfl) (Aa (pv 2) Ad)))) (Kf (Am Ls (pv 2) Ah (Au _)) (Iz (Am A43 (pv 2) (Ao (Aj (K := K)) (by rfl) T.n_len PySem.boot_len (Aa (pv 0) Ad)) (Au _)))))) (Ag (Ap Da)) Aq)
    (Ag (A6 (Am Oe (Ay Es (Al Cf hr (by rfl) (Aa (Bc (A1 (K := K)) (pv 0) (pv 2) (fun _ _ => rfl)) Ad)) Ah) (Al Cf hr (by rfl) (Aa (pv 1) Ad)) (Au _)) (Ag (Ap Da)) Aq))))
    (Ac (Cb PassesOwn.never rfl (B3 (by rfl) T.n_range (Aa (Ao (Aj (K := K)) (by rfl) T.n_len PySem.boot_len (Aa (pv 1) Ad)) Ad)) (As (i := 3) Vo (by rfl) (by first | exact Or.inl rfl | exact Or.inr rfl)) (Ag (A6 (C0 (Ca (Al Ff hr (by rfl) (Aa (pv 0) (Aa (Ep (F7 (K := K)) (pv 1) Jr (Fy (pv 3))) (Aa (Bc (Bb (K := K)) (pv 1) (pv 3) (fun _ _ => rfl)) Ad)))))) (Ag (Ap Da)) Aq)))
    (Ag (Ap Da))))),?_⟩
   refine ⟨_,rfl,th,"tuple",.one e,rfl,.inr (.inr (.inr (.inl rfl))),hd,_,rfl,?_⟩
   cases e with
   | nul => exact k H (Same.refl H)
   | d d =>
     have hd : Rep K H th d := hd
     have k : ∀ H',Same H H' -> Q (.bl (En xs d)) H' := k
     cases d with
     | non => exact k H (Same.refl H)
     | bl b => exact k H (Same.refl H)
     | int i => exact k H (Same.refl H)
     | str z => exact k H (Same.refl H)
     | lst es => exact k H (Same.refl H)
     | tup ds =>
       obtain ⟨pa,us,rfl,hq0,r0⟩ := id hd
       have ul : us.length = ds.length := r0.length
       refine ifN (by simp [isT,isE,isD]) ?_
       refine ⟨_,rfl,pa,us,rfl,.inr hq0,A9 (by simp),fun C hC => ?_⟩
       have sC : Same H (upd H C (.tup [.int 0,.int 2,.int 3,.int 4])) := Same.new hC
       refine ⟨.int (us.length : Int),nums [0,2,3,4],rfl,.inr ⟨C,_,rfl,.of Ab,Fa.mpr rfl⟩,(by rw [Kw]; decide),_,rfl,?_⟩
       rw [ul]
       have cnt : (!(nums [0,2,3,4]).any fun e => eqD e (.int (ds.length : Int))) = !cntB ds.length := by
        have : (nums [0,2,3,4]).any (fun e => eqD e (.int (ds.length : Int))) = cntB ds.length := by
         simp only [nums,List.map_cons,List.map_nil,List.any_cons,List.any_nil,eqD,cntB]
         rw [Bool.eq_iff_iff]
         simp only [Bool.or_eq_true,beq_iff_eq,Bool.or_false]
         omega
        rw [this]
       have k1 := k _ sC
       by_cases hc : cntB ds.length = true
       rotate_left
       . have hc' : cntB ds.length = false := by simpa using hc
         refine ifP (by rw [if_pos rfl,cnt,hc']; rfl) ?_
         have e2 : En xs (.tup ds) = false := by rw [Cn]; simp [hc']
         rw [e2] at k1
         exact k1
       refine ifN (by rw [if_pos rfl,cnt,hc]; simp) ?_
       have hn4 : ds.length <= 4 := (Yt hc).1
       refine ⟨_,rfl,pa,rfl,⟨_,sC.seqT hq0⟩,Ah8 (K := K) (a := pa) (xs := us) (fun i σ H2 => Same H H2 /\ (∃ o2,σ = [some (.ref a),some (.ref pa),o2,none]) /\ ((ds.take i).all fun e => Be xs e (levI ds.length - 1)) = true)
        ⟨sC,⟨none,rfl⟩,rfl⟩ (fun i σ H2 _ ⟨s2,_⟩ => s2.seqT hq0) ?_ ?_⟩
       . rintro i x σ H2 hx ⟨s2,⟨o2,rfl⟩,hall⟩
         have hq : SqT K H2 pa us := s2.seqT hq0
         have r : Reps K H2 us ds := Reps.same s2 r0
         have hL1 : LT K H2 (.ref a) xs := Rep.same s2 hL
         have k1 := k H2 s2
         obtain ⟨xu,hxq,hxl2⟩ := LT.len hL1
         obtain ⟨e,he,re⟩ := r.getV hx
         have hne : 1 <= ds.length := by have := (List.getElem?_eq_some_iff.mp he).1; omega
         have hn2 : 2 <= ds.length := by have := (Yt hc).2; omega
         have bad : Be xs e (levI ds.length - 1) = false -> En xs (.tup ds) = false := fun z => by
          have : (ds.all fun e => Be xs e (levI ds.length - 1)) = false := by
           rw [List.all_eq_false]
           exact ⟨e,List.mem_of_getElem? he,by simp [z]⟩
          rw [Cn,this]
          simp
         refine ⟨_,rfl,x,e,rfl,re,_,rfl,?_⟩
         by_cases hw : Dc e = true
         rotate_left
         . have hw' : Dc e = false := by simpa using hw
           refine ifP (by rw [hw']; rfl) ?_
           have e2 := bad (by cases e <;> first | rfl | (exfalso; exact hw rfl))
           rw [e2] at k1
           exact k1
         refine ifN (by rw [hw]; simp) ?_
         obtain ⟨f,rfl⟩ := Rq hw
         cases (show x = .int f from re)
         refine ⟨_,rfl,_,_,rfl,rfl,_,rfl,?_⟩
         by_cases h0 : 0 <= f
         rotate_left
         . refine ifP (by simp; omega) ?_
           have e2 := bad (by show (decide (0 <= f) && decide (f < (xs.length : Int)) && decide (levI (xs.getD f.toNat []).length = _)) = false; simp [h0])
           rw [e2] at k1
           exact k1
         refine ifN (by simp; omega) ?_
         refine ⟨_,rfl,_,rfl,a,xu,rfl,.inl hxq,_,_,rfl,rfl,_,rfl,?_⟩
         rw [hxl2]
         by_cases h1 : f < (xs.length : Int)
         rotate_left
         . refine ifP (by simp; omega) ?_
           have e2 := bad (by show (decide (0 <= f) && decide (f < (xs.length : Int)) && decide (levI (xs.getD f.toNat []).length = _)) = false; simp [h1])
           rw [e2] at k1
           exact k1
         refine ifN (by simp; omega) ?_
         obtain ⟨xu',v,hq',hv,tv⟩ := LT.get hL1 h0 h1
         refine ⟨_,rfl,_,rfl,a,xu',f,_,rfl,rfl,hq',hv,v,nums (xs.getD f.toNat []),rfl,.inr tv,_,_,rfl,rfl,_,rfl,.ref pa,ds,rfl,.inr (Rep.same s2 hd),rfl,_,rfl,?_⟩
         rw [show (nums (xs.getD f.toNat [])).length = (xs.getD f.toNat []).length from List.length_map ..]
         have key : Be xs (.int f) (levI ds.length - 1) = decide (levI (xs.getD f.toNat []).length + 1 = levI ds.length) := by
          show (decide (0 <= f) && decide (f < (xs.length : Int)) && decide (levI (xs.getD f.toNat []).length = levI ds.length - 1)) = _
          rw [decide_eq_true h0,decide_eq_true h1]
          simp only [Bool.and_self,Bool.true_and]
          exact decide_eq_decide.mpr (by omega)
         by_cases hg : levI (xs.getD f.toNat []).length + 1 = levI ds.length
         rotate_left
         . refine ifP (neI hg) ?_
           have e2 := bad (by rw [key]; exact decide_eq_false hg)
           rw [e2] at k1
           exact k1
         refine ifN (eqI hg) ?_
         refine ⟨s2,⟨_,rfl⟩,?_⟩
         rw [List.take_succ,he,List.all_append,hall]
         show (true && (Be xs (.int f) (levI ds.length - 1) && true)) = true
         rw [key,decide_eq_true hg]
         rfl
       . rintro σ H1 ⟨s1,⟨o2,rfl⟩,hall⟩
         have hq : SqT K H1 pa us := s1.seqT hq0
         have hL1 : LT K H1 (.ref a) xs := Rep.same s1 hL
         have hd1 : Rep K H1 (.ref pa) (.tup ds) := Rep.same s1 hd
         have k1 := k H1 s1
         rw [ul,List.take_length] at hall
         have hint := Uw hall
         have tv : TI K H1 (.ref pa) (ds.map toI) := by
          have := hd1
          rw [hint] at this
          exact this
         generalize hp : ds.map toI = p at hint tv
         have hpn : p.length = ds.length := by rw [← hp,List.length_map]
         have e2 : En xs (.tup ds) = (decide (levI ds.length < 2) || Ek xs p) := by rw [Cn]; rw [hall,hc,hp]; rfl
         have hfs : ∀ f ∈ p,0 <= f /\ f < (xs.length : Int) /\ levI (xs.getD f.toNat []).length + 1 = levI p.length := by
          intro f hf
          rw [List.all_eq_true] at hall
          have hm : L2.D.int f ∈ ds := by
           rw [hint]
           exact List.mem_map.mpr ⟨f,hf,rfl⟩
          have := hall _ hm
          simp only [Be,Bool.and_eq_true,decide_eq_true_eq] at this
          obtain ⟨⟨f0,f1⟩,f2⟩ := this
          exact ⟨f0,f1,by rw [hpn]; omega⟩
         have ma := Af1 hCn hfs
         rw [hpn] at ma
         obtain ⟨pa',ez,sqp⟩ := tv.sq
         cases ez
         have no : ∀ j G,j < ds.length -> ¬ meetsB xs (p.take j) (p.getD j 0) = true -> Same H G -> Q (.bl false) G := fun j G hj hm g => by
          have kG := k G g
          have : En xs (.tup ds) = false := by
           rw [e2,Bool.eq_false_iff]
           exact fun z => hm (ma.mpr z j hj)
          rw [this] at kG
          exact kG
         refine ⟨_,rfl,pa,us,rfl,.inr hq,_,rfl,by omega,by omega,?_⟩
         rw [ul]
         refine B4 (lo := 0) (n := ((ds.length : Nat) : Int).toNat) (fun j σ H2 => Same H1 H2 /\ (∃ o2 o3,σ = [some (.ref a),some (.ref pa),o2,o3]) /\ ∀ j',j' < j -> meetsB xs (p.take j') (p.getD j' 0) = true)
          ⟨Same.refl _,⟨_,none,rfl⟩,fun j' h => absurd h (by omega)⟩ ?_ ?_
         . rintro j σ G hj ⟨g,⟨o2,o3,rfl⟩,hall2⟩
           have hj' : j < p.length := by omega
           rw [show (0 : Int) + (j : Int) = (j : Int) by omega]
           have hatp : atI (p.map V.int) (j : Int) = some (.int (p.getD j 0)) := by
            have := M3 (sp := p) (x := (j : Int)) (by omega) (by omega)
            rwa [Int.toNat_natCast] at this
           refine ⟨_,rfl,_,rfl,_,rfl,_,rfl,pa,_,rfl,g.seqT sqp,?_,fun T1 G1 g1 q1 => ?_⟩
           . rw [List.length_map]
             rintro ⟨_,z⟩
             rw [HT.sIx_nat] at z
             omega
           rw [Nm,← List.map_take] at q1
           have gg := g.trans g1
           obtain ⟨x0,x1,x2⟩ := hfs _ (Ct hj')
           have hcx := hCn.at x0 x1
           refine ⟨_,rfl,_,rfl,pa,_,_,_,rfl,rfl,gg.seqT sqp,hatp,a,.ref T1,xs,p.take j,p.getD j 0,rfl,Rep.same gg hL1,TI.mk q1,x0,x1,fun y hy => ⟨(hfs y (List.mem_of_mem_take hy)).1,(hfs y (List.mem_of_mem_take hy)).2.1⟩,by rw [List.length_take]; omega,?_,?_⟩
           . rw [Bu,Bu] at x2
             by_cases hz : (xs.getD (p.getD j 0).toNat []).length = 0
             . exact .inl hz
             . refine .inr ⟨by rw [List.length_take]; omega,fun y hy => ?_⟩
               obtain ⟨y0,y1,y2⟩ := hfs y (List.mem_of_mem_take hy)
               have hcy := hCn.at y0 y1
               rw [Bu,Bu] at y2
               rw [List.length_take]
               omega
           refine ⟨_,rfl,?_⟩
           by_cases hm : meetsB xs (p.take j) (p.getD j 0) = true
           . rw [hm]
             refine ifN (by simp) ?_
             refine ⟨gg,⟨_,_,rfl⟩,fun j' hj2 => ?_⟩
             by_cases z : j' = j
             . subst z; exact hm
             . exact hall2 j' (by omega)
           . refine ifP (by simpa using hm) ?_
             exact no j G1 (by omega) hm (s1.trans gg)
         . rintro σ G ⟨g,⟨o2,o3,rfl⟩,hall2⟩
           have kG := k G (s1.trans g)
           have : En xs (.tup ds) = true := by
            rw [e2]
            exact ma.mp fun j hj => hall2 j (by omega)
           rw [this] at kG
           exact kG
abbrev Hz : Stmt := top 40
theorem z7 : FnScope ["_law_pieces","_law_cell","_law_points"] ["_law_pieces","_law_cell"] (Af Hz) := ⟨rfl,rfl,rfl,by decide +kernel,rfl,by decide +kernel,by decide +kernel⟩
theorem Ae6 : (["_law_pieces","_law_cell","_law_points"] : List Str).Nodup := by decide +kernel
theorem Ac4 {f : Addr} {fd : FuncData} (F : Fun K "_law_side" "_law_side" Hz f fd) (T : Txt K mg C_Growth) (Ga : Has P w K mg base "_law_pick" ["_law_cell","_law_j","_law_many"] 1 (Ka K)) : FnOk P w K mg base CX0 2 f fd ["_law_pieces","_law_cell"] (Nv K) := by
 refine F.ok z7 (fun vs H Q E h => ?_) (fun cdv A outer s H vs Q E hr h => ?_)
 . obtain ⟨a,xs,c,rfl,hL,hxl,k⟩ := h
   rfl
 . obtain ⟨a,xs,c,rfl,hL,hxl,k⟩ := h
   refine ⟨_,(Ac (S9 (N' := ["_law_place","_law_pieces"]) (cap := [none,some 0]) (i := 2) Ae6 (by rfl) (by first | exact Or.inl rfl | exact Or.inr rfl) (by rfl) (by kernel_rfl) (B3 (by rfl) T.n_range (Aa (Ao (Aj (K := K)) (by rfl) T.n_len PySem.boot_len (Aa (pv 0) Ad)) Ad)) (fun _ _ _ _ => (As (i := 0) A98 (by rfl) (by first | exact Or.inl rfl | exact Or.inr rfl))) (fun _ _ _ _ => (G8 (Am Db (Ao (Aj (K := K)) (by rfl) T.n_len PySem.boot_len (Aa (Bc (A1 (K := K)) (pv 1) (pv 0) (fun _ _ => rfl)) Ad)) Ah (Au _)))) (fun _ _ _ _ => (pv 0)))
    (Ac (A6 (Am Db (Ao (Aj (K := K)) (by rfl) T.n_len PySem.boot_len (Aa (pv 2) Ad)) Ah (Au _)) (Ag (Ap (Cd Ad))) Aq)
    (Ag (Ap (Cd (Aa (Bc (A1 (K := K)) (pv 2) (Al Ga hr (by rfl) (Aa (pv 1) (Aa Ah (Aa (Ao (Aj (K := K)) (by rfl) T.n_len PySem.boot_len (Aa (pv 2) Ad)) Ad)))) (fun _ _ => rfl)) (Aa (Bc (A1 (K := K)) (pv 2) (Al Ga hr (by rfl) (Aa (pv 1) (Aa Ah (Aa (Ao (Aj (K := K)) (by rfl) T.n_len PySem.boot_len (Aa (pv 2) Ad)) Ad)))) (fun _ _ => rfl)) Ad))))))),?_⟩
   obtain ⟨us,hq,ul⟩ := LT.len hL
   refine Ar (fun σ' H' => ∃ (P : Addr) (ps : List Int),σ' = [some (.ref a),some (.int c),some (.ref P)] /\ Same H H' /\ H' P = some (.lst (ps.map V.int))) ?_ fun key => ?_
   rotate_left
   . refine ⟨_,rfl,a,us,rfl,.inl hq,_,rfl,by omega,by omega,fun D hD => ?_⟩
     refine Fh (fun i ys τ G => Same H G /\ G D = some (.lst ys) /\ (∃ ps : List Int,ys = ps.map V.int /\ ps.length <= i) /\ ∃ o,τ = [o,some (.ref a)])
      ⟨Same.new hD,Ab,⟨[],rfl,Nat.le_refl _⟩,none,rfl⟩ ?_ ?_
     . rintro i ys τ G hi ⟨g,hDG,⟨ps,rfl,hpl⟩,o,rfl⟩
       have hi2 : i < xs.length := by omega
       obtain ⟨u1,v1,hu1,av1,tv1⟩ := LT.get (i := (0 : Int) + (i : Int)) (Rep.same g hL) (by omega) (by omega)
       obtain ⟨b1,rfl,hb1⟩ := tv1.sq
       refine ⟨_,rfl,_,rfl,a,u1,_,_,rfl,rfl,hu1,av1,b1,_,rfl,.inr hb1,rfl,_,rfl,?_⟩
       refine ite2 (fun h1 => ?_) (fun h1 => ?_)
       . exact ⟨_,rfl,hDG,Cq (by rw [List.length_map]; omega),g.turn hD,Ab,⟨ps ++ [(0 : Int) + (i : Int)],by simp,by simp; omega⟩,_,rfl⟩
       . exact ⟨g,hDG,⟨ps,rfl,by omega⟩,_,rfl⟩
     . rintro ys τ G ⟨g,hDG,⟨ps,rfl,hpl⟩,_⟩
       exact key _ _ ⟨D,ps,rfl,g,hDG⟩
   rintro _ H1 ⟨P,ps,rfl,s1,hP⟩
   have pe : (ps.map V.int).length = ps.length := List.length_map ..
   refine ⟨_,rfl,P,_,rfl,.inl (.of hP),rfl,_,rfl,?_⟩
   rw [pe]
   refine ite2 (fun h1 => ?_) (fun h1 => ?_)
   . refine ⟨Nat.zero_le _,fun T1 hT1 => ?_⟩
     exact k (.ref T1) [] _ (s1.trans (Same.new hT1)) (TI.mk (.of Ab))
   . have hp : 0 < (ps.length : Int) := by
      have : ¬ ps.length = 0 := fun z => h1 (by rw [z]; rfl)
      omega
     refine ⟨_,rfl,_,rfl,_,rfl,P,_,rfl,.inl (.of hP),_,_,_,rfl,by rw [pe]; exact hp,fun r1 H2 s2 r10 r11 => ?_⟩
     rw [pe] at r11
     refine ⟨P,_,_,_,rfl,rfl,.of (s2 _ _ hP),M3 r10 r11,_,rfl,_,rfl,_,rfl,P,_,rfl,.inl (.of (s2 _ _ hP)),_,_,_,rfl,by rw [pe]; exact hp,fun r2 H3 s3 r20 r21 => ?_⟩
     rw [pe] at r21
     refine ⟨P,_,_,_,rfl,rfl,.of ((s2.trans s3) _ _ hP),M3 r20 r21,A9 (by simp),fun T1 hT1 => ?_⟩
     exact k (.ref T1) [_,_] _ (((s1.trans s2).trans s3).trans (Same.new hT1)) (TI.mk (.of Ab))
abbrev Bo : Stmt := top 44
theorem N4 : FnScope ["_law_words","_law_word","_law_family","_law_layer","_law_rows","_law_k","_law_below","_law_one","_law_face","_law_more"] ["_law_words","_law_word","_law_family"] (Af Bo) := ⟨rfl,rfl,rfl,by decide +kernel,rfl,by decide +kernel,by decide +kernel⟩
theorem A2 : (["_law_words","_law_word","_law_family","_law_layer","_law_rows","_law_k","_law_below","_law_one","_law_face","_law_more"] : List Str).Nodup := by decide +kernel
theorem Of {f : Addr} {fd : FuncData} (F : Fun K "_law_words_with" "_law_words_with" Bo f fd) (T : Txt K mg C_Growth) (C4 : Has P w K mg base "_law_faces_by" ["_law_word","_law_family"] 1 (D0 K)) : FnOk P w K mg base CX0 2 f fd ["_law_words","_law_word","_law_family"] (Ed K) := by
 refine F.ok N4 (fun vs H Q E h => ?_) (fun cdv A outer s H vs Q E hr h => ?_)
 . obtain ⟨l,us,v,ws,w,fam,rfl,hl,hr0,hv,hw,hlen,k⟩ := h
   rfl
 . obtain ⟨l,us,v,ws,w,fam,rfl,hl,hr0,hv,hw,hlen,k⟩ := h
   have hu8 : (A.deeper (PyProof.Rows.envOfC "_law_words_with" (Af Bo) s.heap.objs.size f cdv)).units + 8 < cLine := by have := hr.units; omega
   refine ⟨_,(Ac (Aw (i := 3) A2 (by rfl) (by first | exact Or.inl rfl | exact Or.inr rfl) (Er (Aa (pv 1) Ad)))
    (Ac (Aw (i := 4) A2 (by rfl) (by first | exact Or.inl rfl | exact Or.inr rfl) (Er Ad))
    (Ac (Cb PassesOwn.never rfl (B3 (by rfl) T.n_range (Aa Ah Ad)) (As (i := 5) A2 (by rfl) (by first | exact Or.inl rfl | exact Or.inr rfl)) (Ac (Aw (i := 4) A2 (by rfl) (by first | exact Or.inl rfl | exact Or.inr rfl) (Ay (Vt (K := K)) (pv 3) (pv 4)))
    (Ac (Aw (i := 6) A2 (by rfl) (by first | exact Or.inl rfl | exact Or.inr rfl) (Er Ad))
    (Ac (Cb PassesOwn.never rfl (Co (K := K) (pv 3)) (As (i := 7) A2 (by rfl) (by first | exact Or.inl rfl | exact Or.inr rfl)) (Ag (Cb PassesOwn.never rfl (Co (K := K) (Al C4 hr (by rfl) (Aa (pv 7) (Aa (pv 2) Ad)))) (As (i := 8) A2 (by rfl) (by first | exact Or.inl rfl | exact Or.inr rfl)) (Ag (A6 (PW.pt (Kg (Am (Eb (K := K) hu8) (pv 8) (pv 0) rfl) (Fw (Am (Eb (K := K) hu8) (pv 8) (pv 6) rfl)))) (Ag (Cc (Hg (K := K) PySem.F.plainAttrs_list PySem.F.slot_list_append PySem.F.type_list_append Ce (pv 6) (Aa (pv 8) Ad)))) Aq)))))
    (Ag (Aw (i := 3) A2 (by rfl) (by first | exact Or.inl rfl | exact Or.inr rfl) (pv 6)))))))
    (Ac (Aw (i := 9) A2 (by rfl) (by first | exact Or.inl rfl | exact Or.inr rfl) (C5 (Tx (K := K)) (by rfl) T.n_list Sc (Aa (pv 0) Ad)))
    (Ac (Cb PassesOwn.never rfl (Co (K := K) (pv 4)) (As (i := 7) A2 (by rfl) (by first | exact Or.inl rfl | exact Or.inr rfl)) (Ag (A6 (Am (Eb (K := K) hu8) (pv 7) (pv 9) rfl) (Ag (Cc (Hg (K := K) PySem.F.plainAttrs_list PySem.F.slot_list_append PySem.F.type_list_append Ce (pv 9) (Aa (pv 7) Ad)))) Aq)))
    (Ag (Ap (pv 9)))))))),?_⟩
   have s0w : ∀ u ∈ [w],Word fam u := fun u hu => by
    have e : u = w := by simpa using hu
    subst e
    exact hw
   refine ⟨_,rfl,A9 (by simp),fun L0 hL0 => ?_⟩
   have s1 : Same H (upd H L0 (.lst [v])) := Same.new hL0
   refine ⟨Nat.zero_le _,fun R0 hR0 => ?_⟩
   have s2 : Same (upd H L0 (.lst [v])) (upd (upd H L0 (.lst [v])) R0 (.lst [])) := Same.new hR0
   refine ⟨_,rfl,by decide,by decide,B4 (lo := 0) (n := (4 : Int).toNat)
    (fun i σ H2 => ∃ (L R : Addr) (lu ru : List V) (layer rows : List (List Int)) (o5 o6 o7 o8 o9 : Option V),σ = [some (.ref l),some v,some (.int fam),some (.ref L),some (.ref R),o5,o6,o7,o8,o9] /\ Same H H2 ∧
      H2 L = some (.lst lu) /\ Reps K H2 lu (layer.map tI) /\ H2 R = some (.lst ru) /\ Reps K H2 ru (rows.map tI) /\ (∀ u ∈ layer,Word fam u) /\ Kq ws fam (4 - i) layer rows = Kq ws fam 4 [w] [] /\ layer.length <= 4 ^ i /\ rows.length <= 1000 * i)
    ⟨L0,R0,[v],[],[w],[],none,none,none,none,none,rfl,s1.trans s2,s2 _ _ Ab,Reps.one (TI.same (s1.trans s2) hv),Ab,rfl,s0w,rfl,by simp,by simp⟩ ?_ ?_⟩
   . rintro i σ H2 hi ⟨L,R,lu,ru,layer,rows,o5,o6,o7,o8,o9,rfl,sH,hL,rL,hR,rR,hWl,hlay,hll,hrl⟩
     have hi4 : i < 4 := by simpa using hi
     have h4i : 4 ^ i <= 64 := by
      have : i = 0 \/ i = 1 \/ i = 2 \/ i = 3 := by omega
      rcases this with rfl | rfl | rfl | rfl <;> decide
     have lul : lu.length = layer.length := by have := rL.length; simpa using this
     have rul : ru.length = rows.length := by have := rR.length; simpa using this
     refine ⟨_,rfl,_,rfl,L,R,_,_,rfl,rfl,.of hL,.of hR,A9 (by omega),fun R1 hR1 => ?_⟩
     have sa : Same H2 (upd H2 R1 (.lst (lu ++ ru))) := Same.new hR1
     have hR1a : (upd H2 R1 (.lst (lu ++ ru))) R1 = some (.lst (lu ++ ru)) := Ab
     have rRa : Reps K (upd H2 R1 (.lst (lu ++ ru))) (lu ++ ru) ((layer ++ rows).map tI) := by
      rw [List.map_append]
      exact (Reps.same sa rL).append (Reps.same sa rR)
     have hLa := sa _ _ hL
     have rLa : Reps K (upd H2 R1 (.lst (lu ++ ru))) lu (layer.map tI) := Reps.same sa rL
     have sHa : Same H (upd H2 R1 (.lst (lu ++ ru))) := sH.trans sa
     refine ⟨Nat.zero_le _,fun B hB => ?_⟩
     have sb : Same (upd H2 R1 (.lst (lu ++ ru))) (upd (upd H2 R1 (.lst (lu ++ ru))) B (.lst [])) := Same.new hB
     have hBH : H B = none := sHa.free hB
     refine ⟨_,rfl,L,rfl,⟨_,.of (sb _ _ hLa)⟩,for_list (K := K) (a := L) (xs := lu)
      (fun j σ H3 => ∃ (bu : List V) (o7 o8 : Option V),σ = [some (.ref l),some v,some (.int fam),some (.ref L),some (.ref R1),some (.int (0 + i)),some (.ref B),o7,o8,o9] /\ Same (upd H2 R1 (.lst (lu ++ ru))) H3 /\ H3 B = some (.lst bu) ∧
        Reps K H3 bu ((Dk ws fam [] (layer.take j)).map tI))
      ⟨[],_,_,rfl,sb,Ab,rfl⟩ (fun j σ H3 _ ⟨_,_,_,_,s3,_⟩ => .of (s3 _ _ hLa)) ?_ ?_⟩
     . rintro j x σ H3 hx ⟨bu,o7,o8,rfl,s3,hB3,rB⟩
       have hj : j < lu.length := (List.getElem?_eq_some_iff.mp hx).1
       have hjl : j < layer.length := by omega
       have hjx : (layer.map tI)[j]? = some (tI layer[j]) := by rw [List.getElem?_map,List.getElem?_eq_getElem hjl]; rfl
       obtain ⟨x',hx',tx⟩ := rLa.get hjx
       rw [hx] at hx'
       cases hx'
       have hwj : Word fam layer[j] := hWl _ (List.getElem_mem _)
       refine ⟨_,rfl,_,rfl,x,layer[j],fam,rfl,TI.same s3 tx,hwj,fun p fu H4 hp s4 hp4 r4 => ?_⟩
       have fl := Fg hwj
       have ful : fu.length = (Ai layer[j] fam).length := by have := r4.length; simpa using this
       have hpB : p ≠ B := fun z => by rw [z,hB3] at hp; cases hp
       have hB4 := s4 _ _ hB3
       refine ⟨p,rfl,⟨_,.of hp4⟩,for_list (K := K) (a := p) (xs := fu)
        (fun m σ H5 => ∃ (bu : List V) (o8 : Option V),σ = [some (.ref l),some v,some (.int fam),some (.ref L),some (.ref R1),some (.int (0 + i)),some (.ref B),some x,o8,o9] /\ SameX B H4 H5 /\ H5 B = some (.lst bu) ∧
          Reps K H5 bu ((Bw ws (Dk ws fam [] (layer.take j)) ((Ai layer[j] fam).take m)).map tI) /\ (Bw ws (Dk ws fam [] (layer.take j)) ((Ai layer[j] fam).take m)).length <= 1000)
        ⟨bu,_,rfl,SameX.refl _ _,hB4,(by simpa [Bw] using Reps.same s4 rB),?_⟩ (fun m σ H5 _ ⟨_,_,_,s5,_⟩ => .of (s5 _ _ hpB hp4)) ?_ ?_⟩
       . have := Hw (ws := ws) (fam := fam) (layer.take j) [] (fun u hu => hWl u (List.mem_of_mem_take hu))
         simp only [List.take_zero,Bw,List.length_nil,List.length_take] at this ⊢
         omega
       . rintro m y σ H5 hy ⟨bu5,o8',rfl,s5,hB5,rB5,hbl5⟩
         have hm : m < fu.length := (List.getElem?_eq_some_iff.mp hy).1
         have hmf : m < (Ai layer[j] fam).length := by omega
         have hmy : ((Ai layer[j] fam).map tI)[m]? = some (tI (Ai layer[j] fam)[m]) := by rw [List.getElem?_map,List.getElem?_eq_getElem hmf]; rfl
         obtain ⟨y',hy',ty⟩ := r4.get hmy
         rw [hy] at hy'
         cases hy'
         generalize hf : (Ai layer[j] fam)[m] = fc at ty
         have ty5 : TI K H5 y fc := TI.t (s5.t hB4) ty
         have hl5 : H5 l = some (.lst us) := by
          refine s5 l _ (fun z => ?_) (s4 _ _ (s3 _ _ (sHa _ _ hl)))
          rw [z] at hl
          rw [hl] at hBH
          cases hBH
         have rl5 : Rep K H5 (.ref l) (.lst (ws.map tI)) := ⟨l,us,rfl,.of hl5,Reps.t (s5.t hB4) (Ih ws) (Reps.same ((sHa.trans s3).trans s4) hr0)⟩
         have rb5 : Rep K H5 (.ref B) (.lst ((Bw ws (Dk ws fam [] (layer.take j)) ((Ai layer[j] fam).take m)).map tI)) := ⟨B,bu5,rfl,.of hB5,rB5⟩
         have e0 : Bw ws (Dk ws fam [] (layer.take j)) ((Ai layer[j] fam).take (m + 1)) = (if fc ∉ ws /\ fc ∉ Bw ws (Dk ws fam [] (layer.take j)) ((Ai layer[j] fam).take m) then Bw ws (Dk ws fam [] (layer.take j)) ((Ai layer[j] fam).take m) ++ [fc] else Bw ws (Dk ws fam [] (layer.take j)) ((Ai layer[j] fam).take m)) := by
          rw [List.take_succ,List.getElem?_eq_getElem hmf,hf]
          exact P1 _ _ _ _
         have hbu5 : bu5.length = (Bw ws (Dk ws fam [] (layer.take j)) ((Ai layer[j] fam).take m)).length := by have := rB5.length; simpa using this
         have hlen6 : (Bw ws (Dk ws fam [] (layer.take j)) ((Ai layer[j] fam).take (m + 1))).length <= 1000 := by
          have h1 := Mt (ws := ws) ((Ai layer[j] fam).take (m + 1)) (Dk ws fam [] (layer.take j))
          have h2 := Hw (ws := ws) (fam := fam) (layer.take j) [] (fun u hu => hWl u (List.mem_of_mem_take hu))
          simp only [List.length_nil,List.length_take] at h1 h2
          have h3 : (Ai layer[j] fam).length <= 4 := by have := fl.1; have := fl.2; split at * <;> omega
          omega
         generalize hacc : Bw ws (Dk ws fam [] (layer.take j)) ((Ai layer[j] fam).take m) = acc at rB5 rb5 e0 hbu5 hbl5
         refine ⟨_,rfl,_,rfl,tI fc,ws.map tI,ty5,.inl rl5,(by have := Kv ws; omega),_,rfl,?_⟩
         by_cases h1 : fc ∈ ws
         . refine ifN (by rw [if_pos rfl,Px]; simp [h1]) ?_
           refine ifN (by simp) ?_
           refine ⟨bu5,_,rfl,s5,hB5,?_,hlen6⟩
           rw [e0,if_neg (by simp [h1])]
           exact rB5
         . refine ifP (by rw [if_pos rfl,Px]; simp [h1]) ?_
           refine ⟨_,rfl,_,rfl,tI fc,acc.map tI,ty5,.inl rb5,(by have := Kv acc; omega),_,rfl,?_⟩
           by_cases h2 : fc ∈ acc
           . refine ifN (by rw [if_pos rfl,Px]; simp [h2]) ?_
             refine ⟨bu5,_,rfl,s5,hB5,?_,hlen6⟩
             rw [e0,if_neg (by simp [h2])]
             exact rB5
           . refine ifP (by rw [if_pos rfl,Px]; simp [h2]) ?_
             refine ⟨_,rfl,.inl ⟨rfl,_,.of hB5⟩,_,rfl,B,_,_,rfl,rfl,hB5,Cq (by omega),?_⟩
             refine ⟨_,_,rfl,s5.upd,Ab,?_,hlen6⟩
             rw [e0,if_pos ⟨h1,h2⟩]
             exact Fx hB5 rB5 ty5
       . rintro σ H5 ⟨bu5,o8',rfl,s5,hB5,rB5,_⟩
         refine ⟨bu5,_,_,rfl,?_,hB5,?_⟩
         . exact s5.same (s3.trans s4) hB
         . rw [ful,List.take_length] at rB5
           rw [List.take_succ,List.getElem?_eq_getElem hjl]
           have e1 : Dk ws fam [] (layer.take j ++ (some layer[j]).toList) = Bw ws (Dk ws fam [] (layer.take j)) (Ai layer[j] fam) := Se _ _ _ _ _
           rw [e1]
           exact rB5
     . rintro σ H3 ⟨bu,o7,o8,rfl,s3,hB3,rB⟩
       rw [lul,List.take_length] at rB
       refine ⟨_,rfl,?_⟩
       refine ⟨B,R1,bu,lu ++ ru,Dk ws fam [] layer,layer ++ rows,_,_,_,_,_,rfl,sHa.trans s3,hB3,rB,s3 _ _ hR1a,Reps.same s3 rRa,?_,?_,?_,?_⟩
       . intro u hu
         rcases K5 _ _ hu with z | ⟨t,ht,z⟩
         . exact nomatch z
         . exact (Ik (hWl t ht) z).1
       . rw [← hlay,show 4 - i = (4 - (i + 1)) + 1 by omega]
         rfl
       . have := Hw (ws := ws) (fam := fam) layer [] hWl
         simp only [List.length_nil] at this
         rw [Nat.pow_succ]
         omega
       . rw [List.length_append]
         omega
   . rintro σ H2 ⟨L,R,lu,ru,layer,rows,o5,o6,o7,o8,o9,rfl,sH,hL,rL,hR,rR,hWl,hlay,hll,hrl⟩
     have hrows : rows = Kq ws fam 4 [w] [] := hlay
     have hrl2 := i4 (ws := ws) hw
     rw [← hrows] at hrl2
     have rul : ru.length = rows.length := by have := rR.length; simpa using this
     refine ⟨_,rfl,l,_,rfl,.inl (.of (sH _ _ hl)),fun M hM => ?_⟩
     have sm : Same H2 (upd H2 M (.lst us)) := Same.new hM
     have hMH : H M = none := sH.free hM
     have usl : us.length = ws.length := by have := hr0.length; simpa using this
     refine ⟨_,rfl,R,rfl,⟨_,.of (sm _ _ hR)⟩,for_list (K := K) (a := R) (xs := ru)
      (fun j σ H3 => ∃ (mu : List V) (o7 : Option V),σ = [some (.ref l),some v,some (.int fam),some (.ref L),some (.ref R),o5,o6,o7,o8,some (.ref M)] /\ Same H2 H3 /\ H3 M = some (.lst mu) /\ Reps K H3 mu ((C8 ws (rows.take j)).map tI))
      ⟨us,_,rfl,sm,Ab,(by simpa [C8] using Reps.same (sH.trans sm) hr0)⟩ (fun j σ H3 _ ⟨_,_,_,s3,_⟩ => .of (s3 _ _ hR)) ?_ ?_⟩
     . rintro j x σ H3 hx ⟨mu,o7',rfl,s3,hM3,rM⟩
       have hj : j < ru.length := (List.getElem?_eq_some_iff.mp hx).1
       have hjl : j < rows.length := by omega
       have hjx : (rows.map tI)[j]? = some (tI rows[j]) := by rw [List.getElem?_map,List.getElem?_eq_getElem hjl]; rfl
       obtain ⟨x',hx',tx⟩ := rR.get hjx
       rw [hx] at hx'
       cases hx'
       generalize hf : rows[j] = fc at tx
       have tx3 : TI K H3 x fc := TI.same s3 tx
       have e0 : C8 ws (rows.take (j + 1)) = (if fc ∈ C8 ws (rows.take j) then C8 ws (rows.take j) else C8 ws (rows.take j) ++ [fc]) := by
        rw [List.take_succ,List.getElem?_eq_getElem hjl,hf]
        exact P2 _ _ _
       have hal := Sj (rows.take j) ws
       rw [List.length_take] at hal
       have mul : mu.length = (C8 ws (rows.take j)).length := by have := rM.length; simpa using this
       generalize hacc : C8 ws (rows.take j) = acc at rM e0 hal mul
       have rm3 : Rep K H3 (.ref M) (.lst (acc.map tI)) := ⟨M,mu,rfl,.of hM3,rM⟩
       refine ⟨_,rfl,_,rfl,tI fc,acc.map tI,tx3,.inl rm3,(by have := Kv acc; omega),_,rfl,?_⟩
       by_cases h1 : fc ∈ acc
       . refine ifN (by rw [if_pos rfl,Px]; simp [h1]) ?_
         refine ⟨mu,_,rfl,s3,hM3,?_⟩
         rw [e0,if_pos h1]
         exact rM
       . refine ifP (by rw [if_pos rfl,Px]; simp [h1]) ?_
         refine ⟨_,rfl,.inl ⟨rfl,_,.of hM3⟩,_,rfl,M,_,_,rfl,rfl,hM3,Cq (by omega),?_⟩
         refine ⟨_,_,rfl,s3.turn hM,Ab,?_⟩
         rw [e0,if_neg h1]
         exact Fx hM3 rM tx3
     . rintro σ H3 ⟨mu,o7',rfl,s3,hM3,rM⟩
       rw [rul,List.take_length,hrows] at rM
       exact ⟨_,rfl,k M mu H3 hMH (sH.trans s3) hM3 rM⟩
abbrev B9 : Stmt := top 49
theorem S7 : FnScope ["_law_pieces","_law_paper","_law_place","_law_prime_here","_law_key","_law_number"] ["_law_pieces","_law_paper","_law_place","_law_prime_here"] (Af B9) := ⟨rfl,rfl,rfl,by decide +kernel,rfl,by decide +kernel,by decide +kernel⟩
theorem Ko : (["_law_pieces","_law_paper","_law_place","_law_prime_here","_law_key","_law_number"] : List Str).Nodup := by decide +kernel
theorem Tj {f : Addr} {fd : FuncData} (F : Fun K "_law_is_paper" "_law_is_paper" B9 f fd) (T : Txt K mg C_Growth) (Cf : Has P w K mg base "_law_level" ["_law_piece"] 1 (Bx K)) (Bn : Has P w K mg base "_law_whole" ["_law_found"] 1 (D7 K)) : FnOk P w K mg base CX0 2 f fd ["_law_pieces","_law_paper","_law_place","_law_prime_here"] (Jp K) := by
 refine F.ok S7 (fun vs H Q E h => ?_) (fun cdv A outer s H vs Q E hr h => ?_)
 . obtain ⟨a,d,xs,sm,p,i,rfl,hL,hd,ok,kk,hil,hown,hsl,k⟩ := h
   rfl
 . obtain ⟨a,d,xs,sm,p,i,rfl,hL,hd,ok,kk,hil,hown,hsl,k⟩ := h
   have hu8 : (A.deeper (PyProof.Rows.envOfC "_law_is_paper" (Af B9) s.heap.objs.size f cdv)).units + 8 < cLine := by have := hr.units; omega
   refine ⟨_,(Ac (A6 (C0 (Ca (Ao Yu (by rfl) T.n_isinstance A4 (Aa (pv 1) (Aa (F1 (v := .ty "dict") rfl T.n_dict Fm rfl) Ad))))) (Ag (Ap Da)) Aq)
    (Ac (Aa6 (Cb PassesOwn.never rfl (Ic (pv 1)) (Eh (K := K) (n := 2) (by rfl) (A8 (As (i := 4) Ko (by rfl) (by first | exact Or.inl rfl | exact Or.inr rfl)) (A8 (As (i := 5) Ko (by rfl) (by first | exact Or.inl rfl | exact Or.inr rfl)) Ef))) (Ac (A6 (PW.pt (Kf (C0 (Ca (Al Bn hr (by rfl) (Aa (pv 4) Ad)))) (Kf (Am Ls (pv 4) Ah (Au _)) (Iz (Am Ac2 (pv 4) (pv 2) (Au _)))))) (Ag (Ap Da)) Aq)
    (Ac (A6 (Am Oe (Al Cf hr (by rfl) (Aa (Bc (A1 (K := K)) (pv 0) (pv 4) (fun _ _ => rfl)) Ad)) (Al Cf hr (by rfl) (Aa (Bc (A1 (K := K)) (pv 0) (pv 2) (fun _ _ => rfl)) Ad)) (Au _)) (Ag (Ap Da)) Aq)
    (Ag (A6 (PW.pt (Kf (C0 (Ca (Al Bn hr (by rfl) (Aa (pv 5) Ad)))) (Kf (Am Ls (pv 5) Ah (Au _)) (Iz (Am A43 (pv 5) (pv 3) (Au _)))))) (Ag (Ap Da)) Aq))))))
    (Ag (Ap (Ve (Od (Ac1 (u1 hu8)) (pv 2) (pv 1) rfl) (Rt (Od Db (Tg (u1 hu8) (pv 1) (pv 2) (fun _ _ => rfl)) Ah (Au _)))))))),?_⟩
   refine ⟨_,rfl,d,cK sm,rfl,.inl hd,_,rfl,?_⟩
   refine ifN (by decide) ?_
   refine Ar (fun σ' H' => σ' = [some (.ref a),some (.ref d),some (.int (i : Int)),some (.int p),none,none] /\ H = H') ?_ fun key0 => key0 _ _ ⟨rfl,rfl⟩
   rintro _ _ ⟨rfl,rfl⟩
   refine Ar (fun σ' H' => ∃ o4 o5 : Option V,σ' = [some (.ref a),some (.ref d),some (.int (i : Int)),some (.int p),o4,o5] /\ Same H H') ?_ fun key => ?_
   rotate_left
   . refine .inr ⟨d,cK sm,hd,fun hnd o => ?_⟩
     refine ⟨_,rfl,d,o,cK sm,rfl,Ab,?_⟩
     refine O2 (d := d) (o := o) (kvs := cK sm) (fun m σ G => ∃ o4 o5 : Option V,σ = [some (.ref a),some (.ref d),some (.int (i : Int)),some (.int p),o4,o5] /\ G d = some (.frz o (.dK (cK sm))) /\ K9 d H G)
      ⟨none,none,rfl,Ab,fun c q n e => by rw [Ae n]; exact e⟩ (fun m σ G _ ⟨_,_,_,e,_⟩ => e) ?_ ?_
     . rintro m ky x σ G pr hx ⟨o4,o5,rfl,hdG,st⟩ hpr
       obtain ⟨q,hq,rfl,rfl⟩ := Sa hx
       have hqm := List.mem_of_getElem? hq
       obtain ⟨q0,q1,q2⟩ := kk q.1 (List.mem_map.mpr ⟨q,hqm,rfl⟩)
       obtain ⟨v0,v1⟩ := ok.bd q hqm
       have sp := Same.new (o := .tup [kV (.inl q.1),.int q.2]) hpr
       have hLG : LT K G (.ref a) xs := Rep.x st hd hL
       refine ⟨pr,_,rfl,.of Ab,rfl,_,_,rfl,_,_,rfl,rfl,?_⟩
       have hL1 := Rep.same sp hLG
       have hd1 := sp _ _ hdG
       have st1 : K9 d H (upd G pr (.tup [kV (.inl q.1),.int q.2])) := fun c r n e => sp _ _ (st c r n e)
       generalize upd G pr (.tup [kV (.inl q.1),.int q.2]) = G1 at hL1 hd1 st1 ⊢
       refine ⟨_,rfl,_,.int q.1,rfl,rfl,_,rfl,?_⟩
       refine ifN (by simp [Dc,isD]) ?_
       refine ⟨_,rfl,_,_,rfl,rfl,_,rfl,?_⟩
       refine ifN (by simp; omega) ?_
       refine ⟨_,rfl,_,rfl,_,_,rfl,rfl,_,rfl,?_⟩
       refine ifN (by simp; omega) ?_
       obtain ⟨us,v,hus,hat,tv⟩ := LT.get hL1 q0 (show q.1 < (xs.length : Int) by omega)
       obtain ⟨ws,w',hws,haw,tw⟩ := LT.get hL1 (show (0 : Int) <= (i : Int) by omega) (show (i : Int) < (xs.length : Int) by omega)
       rw [Int.toNat_natCast] at tw
       refine ⟨_,rfl,_,rfl,a,us,_,_,rfl,rfl,hus,hat,v,nums (xs.getD q.1.toNat []),rfl,.inr tv,_,rfl,_,rfl,a,ws,_,_,rfl,rfl,hws,haw,w',nums (xs.getD i []),rfl,.inr tw,rfl,_,rfl,?_⟩
       refine ifN (eqI (by rw [show (nums (xs.getD q.1.toNat [])).length = (xs.getD q.1.toNat []).length from List.length_map ..,show (nums (xs.getD i [])).length = (xs.getD i []).length from List.length_map ..,Bu,Bu]; omega)) ?_
       refine ⟨_,rfl,_,.int q.2,rfl,rfl,_,rfl,?_⟩
       refine ifN (by simp [Dc,isD]) ?_
       refine ⟨_,rfl,_,_,rfl,rfl,_,rfl,?_⟩
       refine ifN (by simp; omega) ?_
       refine ⟨_,rfl,_,rfl,_,_,rfl,rfl,_,rfl,?_⟩
       refine ifN (by simp; omega) ?_
       exact ⟨_,_,rfl,hd1,st1⟩
     . rintro σ G ⟨o4,o5,rfl,hdG,st⟩
       refine ⟨hdG,key _ _ ⟨o4,o5,rfl,fun c q e => ?_⟩⟩
       by_cases z : c = d
       . subst z
         rw [hd] at e
         cases e
         exact Ab
       . rw [Ae z]
         exact st c q z e
   rintro _ H1 ⟨o4,o5,rfl,s1⟩
   have hd1 := s1 _ _ hd
   have hk : (i : Int) ∈ Az sm := (O1 ok.nz).mp (by rw [hown]; decide)
   have hlk : A0 sm (i : Int) = some 1 := by
    obtain ⟨r,hr,er⟩ := List.mem_map.mp hk
    have e1 := Ni ok.nd hr
    rw [er] at e1
    have e2 : getI sm (i : Int) = r.2 := by unfold getI; rw [e1]; rfl
    rw [e1,← e2,hown]
   refine ⟨_,rfl,_,rfl,d,cK sm,.inl (i : Int),rfl,hd1,rfl,_,rfl,?_⟩
   refine ifP (by rw [K4,hlk]; rfl) ?_
   refine ⟨_,rfl,_,rfl,d,.int 1,rfl,Ug (.inl hd1) hlk,rfl,?_⟩
   simpa using k H1 s1
abbrev Bz : Stmt := top 51
theorem Qf : FnScope ["_law_found","_law_due","_law_one","_law_other"] ["_law_found","_law_due"] (Af Bz) := ⟨rfl,rfl,rfl,by decide +kernel,rfl,by decide +kernel,by decide +kernel⟩
theorem Jb : (["_law_found","_law_due","_law_one","_law_other"] : List Str).Nodup := by decide +kernel
theorem Qq {f : Addr} {fd : FuncData} (F : Fun K "_law_are_pairs" "_law_are_pairs" Bz f fd) (T : Txt K mg C_Growth) (Bn : Has P w K mg base "_law_whole" ["_law_found"] 1 (D7 K)) : FnOk P w K mg base CX0 2 f fd ["_law_found","_law_due"] (Gx K) := by
 refine F.ok Qf (fun vs H Q E h => ?_) (fun cdv A outer s H vs Q E hr h => ?_)
 . obtain ⟨a,b,es,bs,rfl,hA,hB,k⟩ := h
   rfl
 . obtain ⟨a,b,es,bs,rfl,hA,hB,k⟩ := h
   have hu8 : (A.deeper (PyProof.Rows.envOfC "_law_are_pairs" (Af Bz) s.heap.objs.size f cdv)).units + 8 < cLine := by have := hr.units; omega
   refine ⟨_,(Ac (A6 (PW.pt (Kf (C0 (Ca (Ao (C3 (K := K)) (by rfl) T.n_isinstance A4 (Aa (pv 0) (Aa (F1 (v := .ty "list") rfl T.n_list Sc rfl) Ad))))) (Iz (Am Oe (Ao (Aj (K := K)) (by rfl) T.n_len PySem.boot_len (Aa (pv 0) Ad)) (Ao (Aj (K := K)) (by rfl) T.n_len PySem.boot_len (Aa (pv 1) Ad)) (Au _))))) (Ag (Ap Da)) Aq)
    (Ac (Cb PassesOwn.never rfl (A34 (K := K) (by rfl) T.n_zip (Aa (pv 0) (Aa (pv 1) Ad))) (Eh (K := K) (n := 2) (by rfl) (A8 (As (i := 2) Jb (by rfl) (by first | exact Or.inl rfl | exact Or.inr rfl)) (A8 (As (i := 3) Jb (by rfl) (by first | exact Or.inl rfl | exact Or.inr rfl)) Ef))) (Ac (A6 (PW.pt (Kf (C0 (Ca (Ao (C3 (K := K)) (by rfl) T.n_isinstance A4 (Aa (pv 2) (Aa (F1 (v := .ty "tuple") rfl T.n_tuple Cw rfl) Ad))))) (Kf (Am Oe (Ao (Aj (K := K)) (by rfl) T.n_len PySem.boot_len (Aa (pv 2) Ad)) Ah (Au _)) (Iz (C0 (Ca (Al Bn hr (by rfl) (Aa (Bc (Bb (K := K)) (pv 2) Ah (fun _ _ => rfl)) Ad)))))))) (Ag (Ap Da)) Aq)
    (Ac (A6 (PW.pt (Kg (Am Xs (Bc (Bb (K := K)) (pv 2) Ah (fun _ _ => rfl)) Mu (Au _)) (Fw (C0 (Ca (Al Bn hr (by rfl) (Aa (Bc (Bb (K := K)) (pv 2) Ah (fun _ _ => rfl)) Ad))))))) (Ag (Ap Da)) Aq)
    (Ag (A6 (Am (Af8 (K := K) hu8) (pv 2) (pv 3) (Au _)) (Ag (Ap Da)) Aq)))))
    (Ag (Ap Da)))),?_⟩
   obtain ⟨_,us,z,hqa,ra⟩ := id hA
   cases z
   obtain ⟨_,ws,z,hqb,rb⟩ := id hB
   cases z
   have usl := ra.length
   have wsl := rb.length
   refine ⟨_,rfl,_,_,_,rfl,.inr (.inr (.inr (.inr (.inl rfl)))),hA,_,rfl,?_⟩
   refine ifN (by simp [isD]) ?_
   refine ⟨_,rfl,a,us,rfl,.inl hqa,_,rfl,b,ws,rfl,.inl hqb,rfl,_,rfl,?_⟩
   refine ifN (by simp [usl,wsl]) ?_
   refine Ar (fun σ' H' => σ' = [some (.ref a),some (.ref b),none,none] /\ H = H') ?_ fun key0 => key0 _ _ ⟨rfl,rfl⟩
   rintro _ _ ⟨rfl,rfl⟩
   refine ⟨_,rfl,_,rfl,a,b,rfl,⟨_,hqa⟩,⟨_,hqb⟩,?_⟩
   refine Az8 (K := K) (a := a) (b := b) (xs := us) (ys := ws) (n := us.length) (by rw [usl,wsl,Nat.min_self]) (fun i σ G => ∃ o2 o3,σ = [some (.ref a),some (.ref b),o2,o3] /\ Same H G)
    ⟨none,none,rfl,Same.refl H⟩ (fun i σ G _ ⟨_,_,_,s1⟩ => ⟨s1.seq hqa,s1.seq hqb⟩) ?_ ?_
   . rintro i u w' σ G pr hu hw ⟨o2,o3,rfl,s1⟩ hp
     obtain ⟨d,hd,ru⟩ := ra.getV hu
     obtain ⟨d',hd',rw'⟩ := rb.getV hw
     obtain rfl : d = d' := by rw [hd] at hd'; exact Option.some.inj hd'
     obtain ⟨j,_,rfl⟩ := List.mem_map.mp (List.mem_of_getElem? hd)
     have s2 := s1.trans (Same.new (o := .tup [u,w']) hp)
     refine ⟨pr,_,rfl,.of Ab,rfl,_,_,rfl,_,_,rfl,rfl,?_⟩
     generalize upd G pr (.tup [u,w']) = G1 at s2 ⊢
     have ru1 := Rep.same s2 ru
     obtain ⟨au,vs,rfl,squ,rv⟩ := id ru1
     obtain ⟨v1,vs1,rfl,r1,rv⟩ := rv
     obtain ⟨v2,vs2,rfl,r2,rv⟩ := rv
     obtain rfl : vs2 = [] := rv
     obtain rfl : v1 = .int (j : Int) := r1
     refine ⟨_,rfl,_,_,Fb bs j,rfl,.inr (.inr (.inr (.inl rfl))),ru1,_,rfl,?_⟩
     refine ifN (by simp [isD,Fb]) ?_
     refine ⟨_,rfl,au,_,rfl,.inr squ,rfl,_,rfl,?_⟩
     refine ifN (by simp) ?_
     refine ⟨_,rfl,au,_,_,_,rfl,rfl,squ,at0 _ _,_,.int (j : Int),rfl,rfl,_,rfl,?_⟩
     refine ifN (by simp [Dc,isD]) ?_
     refine Ar (fun σ' H' => σ' = [some (.ref a),some (.ref b),some (.ref au),some w'] /\ G1 = H') ?_ fun key0 => key0 _ _ ⟨rfl,rfl⟩
     rintro _ _ ⟨rfl,rfl⟩
     refine Ar (t := tIfS _ _ _) (fun σ' H' => σ' = [some (.ref a),some (.ref b),some (.ref au),some w'] /\ G1 = H') ?_ fun key => ?_
     rotate_left
     . refine ⟨_,rfl,au,_,_,_,rfl,rfl,squ,at1 _ _ _,rfl,_,rfl,?_⟩
       by_cases hn : v2 = .non
       . refine ifN (by simp [hn]) ?_
         refine ifN (by decide) ?_
         exact key _ _ ⟨rfl,rfl⟩
       refine ifP (by simpa using hn) ?_
       obtain ⟨e,rfl⟩ : ∃ e : Int,v2 = .int e := by
        unfold endD at r2
        cases hl : A0 bs (j : Int) with
        | none => rw [hl] at r2; exact absurd r2 hn
        | some e => rw [hl] at r2; exact ⟨e,r2⟩
       refine ⟨_,rfl,au,_,_,_,rfl,rfl,squ,at1 _ _ _,_,.int e,rfl,rfl,_,rfl,?_⟩
       refine ifN (by simp [Dc,isD]) ?_
       exact key _ _ ⟨rfl,rfl⟩
     rintro _ _ ⟨rfl,rfl⟩
     refine ⟨_,rfl,_,rfl,Fb bs j,Fb bs j,ru1,Rep.same s2 rw',Nat.le_trans (Zb bs j) (by decide),_,rfl,?_⟩
     refine ifN (by rw [Ku]; decide) ?_
     exact ⟨_,_,rfl,s2⟩
   . rintro σ G ⟨o2,o3,rfl,s1⟩
     exact k G s1
abbrev Bh : Stmt := top 52
theorem Kd : FnScope ["_law_answers","_law_due","_law_born","_law_end"] ["_law_answers","_law_due"] (Af Bh) := ⟨rfl,rfl,rfl,by decide +kernel,rfl,by decide +kernel,by decide +kernel⟩
theorem Et : (["_law_answers","_law_due","_law_born","_law_end"] : List Str).Nodup := by decide +kernel
theorem Kl {f : Addr} {fd : FuncData} (F : Fun K "_law_answers_right" "_law_answers_right" Bh f fd) (T : Txt K mg C_Growth) (Bn : Has P w K mg base "_law_whole" ["_law_found"] 1 (D7 K)) : FnOk P w K mg base CX0 2 f fd ["_law_answers","_law_due"] (Nq K) := by
 refine F.ok Kd (fun vs H Q E h => ?_) (fun cdv A outer s H vs Q E hr h => ?_)
 . obtain ⟨a,b,rs,p,xs,es,ss,bs,rfl,hqa,hans,hB,gw,k⟩ := h
   rfl
 . obtain ⟨a,b,rs,p,xs,es,ss,bs,rfl,hqa,hans,hB,gw,k⟩ := h
   refine ⟨_,(Ac (Cb PassesOwn.never rfl (Co (K := K) (pv 1)) (Eh (K := K) (n := 2) (by rfl) (A8 (As (i := 2) Et (by rfl) (by first | exact Or.inl rfl | exact Or.inr rfl)) (A8 (As (i := 3) Et (by rfl) (by first | exact Or.inl rfl | exact Or.inr rfl)) Ef))) (Ac (A6 (Am Xs (Bc (A1 (K := K)) (pv 0) (pv 2) (fun _ _ => rfl)) Mu (Au _)) (Ag (Ap Da)) Aq)
    (Ag (A6 (PW.pt (Kg (Am Xs (pv 3) Mu (Au _)) (Fw (C0 (PW.pt (Kg (Ca (Al Bn hr (by rfl) (Aa (Bc (A1 (K := K)) (pv 0) (pv 3) (fun _ _ => rfl)) Ad))) (Fw (Am Db (Bc (A1 (K := K)) (pv 0) (pv 3) (fun _ _ => rfl)) (pv 2) (Au _))))))))) (Ag (Ap Da)) Aq))))
    (Ag (Ap Da))),?_⟩
   obtain ⟨_,ws,z,hqb,rb⟩ := id hB
   cases z
   have hrl := hans.1
   refine ⟨_,rfl,b,rfl,⟨_,hqb⟩,?_⟩
   refine for_list (K := K) (a := b) (xs := ws) (fun i σ G => ∃ o2 o3,σ = [some (.ref a),some (.ref b),o2,o3] /\ H = G)
    ⟨none,none,rfl,rfl⟩ (fun i σ G _ ⟨_,_,_,e⟩ => by rw [← e]; exact hqb) ?_ ?_
   . rintro i u σ G hu ⟨o2,o3,rfl,rfl⟩
     obtain ⟨d,hd,ru⟩ := rb.getV hu
     obtain ⟨j,hj,rfl⟩ := List.mem_map.mp (List.mem_of_getElem? hd)
     obtain ⟨hjl,hje⟩ := Wr.mp hj
     have hje' : es[j]? = some [] := by rw [Pw hjl,hje]
     obtain ⟨au,vs,rfl,squ,rv⟩ := id ru
     obtain ⟨v1,vs1,rfl,r1,rv⟩ := rv
     obtain ⟨v2,vs2,rfl,r2,rv⟩ := rv
     obtain rfl : vs2 = [] := rv
     obtain rfl : v1 = .int (j : Int) := r1
     have hjr : rs[j]? = some .non := by
      have hjr' : rs[j]? = some rs[j] := List.getElem?_eq_getElem (by omega)
      rcases hans.2 j _ _ hje' hjr' with ⟨_,z⟩ | ⟨t,ht,_⟩
      . rw [hjr',z]
      . exact (Top.no ht).elim
     refine ⟨au,_,rfl,squ,rfl,_,_,rfl,_,_,rfl,rfl,?_⟩
     refine ⟨_,rfl,_,rfl,a,rs,_,_,rfl,rfl,hqa,Cl hjr,rfl,_,rfl,?_⟩
     refine ifN (by simp) ?_
     refine ⟨_,rfl,rfl,_,rfl,?_⟩
     by_cases hn : v2 = .non
     . refine ifN (by simp [hn]) ?_
       refine ifN (by decide) ?_
       exact ⟨_,_,rfl,rfl⟩
     refine ifP (by simpa using hn) ?_
     obtain ⟨e,hl,rfl⟩ : ∃ e : Int,A0 bs (j : Int) = some e /\ v2 = .int e := by
      unfold endD at r2
      cases hl : A0 bs (j : Int) with
      | none => rw [hl] at r2; exact absurd r2 hn
      | some e => rw [hl] at r2; exact ⟨e,rfl,r2⟩
     obtain ⟨i',m,rfl,hm,ht⟩ := (gw.bls (j : Int) e).mp hl
     have hil : i' < rs.length := by rw [hrl]; exact (List.getElem?_eq_some_iff.mp hm).1
     have hir : rs[i']? = some (.int (j : Int)) := by
      have hir' : rs[i']? = some rs[i'] := List.getElem?_eq_getElem hil
      rcases hans.2 i' _ _ hm hir' with ⟨z,_⟩ | ⟨t,ht',z⟩
      . rw [z] at ht; exact (Top.no ht).elim
      . rw [hir',z,Top.one ht' ht]
     refine ⟨_,rfl,_,rfl,a,rs,_,_,rfl,rfl,hqa,Cl hir,_,.int (j : Int),rfl,rfl,_,rfl,?_⟩
     refine ifP (by simp [Dc,isD]) ?_
     refine ⟨_,rfl,_,rfl,a,rs,_,_,rfl,rfl,hqa,Cl hir,_,rfl,rfl,_,rfl,?_⟩
     refine ifN (by simp) ?_
     exact ⟨_,_,rfl,rfl⟩
   . rintro σ G ⟨o2,o3,rfl,rfl⟩
     exact k H (Same.refl H)
abbrev Ba : Stmt := top 9
theorem Io : FnScope ["shape","thing","level"] ["shape","thing","level"] (Af Ba) := ⟨rfl,rfl,rfl,by decide +kernel,rfl,by decide +kernel,by decide +kernel⟩
theorem Iq {f : Addr} {fd : FuncData} (F : Fun K "is_place_of_level" "is_place_of_level" Ba f fd) (T : Txt K mg C_Growth) (A3 : Has P w K mg base "is_whole_below" ["thing","bound"] 2 (Br K)) (Ec : Has P w K mg base "level_of" ["piece"] 1 (Bx K)) : FnOk P w K mg base CX0 3 f fd ["shape","thing","level"] (Ck K) := by
 refine F.ok Io (fun vs H Q E h => ?_) (fun cdv A outer s H vs Q E hr h => ?_)
 . obtain ⟨a,x,d,l,xs,rfl,hL,hx,k⟩ := h
   rfl
 . obtain ⟨a,x,d,l,xs,rfl,hL,hx,k⟩ := h
   refine ⟨_,(Ag (Ap (Ve (Al A3 hr (by rfl) (Aa (pv 1) (Aa (Ao (Aj (K := K)) (by rfl) T.n_len PySem.boot_len (Aa (pv 0) Ad)) Ad))) (Rt (Od Db (Al Ec hr (by rfl) (Aa (Bc (A1 (K := K)) (pv 0) (pv 1) (fun _ _ => rfl)) Ad)) (pv 2) (Au _)))))),?_⟩
   obtain ⟨us,hq,hul⟩ := LT.len hL
   refine ⟨_,rfl,_,rfl,a,us,rfl,.inl hq,x,d,_,rfl,hx,_,rfl,?_⟩
   rw [hul]
   refine ite2 (fun e => ?_) (fun e => ?_)
   . obtain ⟨i,rfl⟩ : ∃ i,d = .int i := by cases d <;> first | exact ⟨_,rfl⟩ | (exfalso; simp [Pu] at e)
     cases (show x = .int i from hx)
     have e' : (decide (0 <= i) && decide (i < (xs.length : Int))) = true := e
     have h0 : 0 <= i /\ i < (xs.length : Int) := by simpa using e'
     obtain ⟨us',v,hq',hv,tv⟩ := LT.get hL h0.1 h0.2
     refine ⟨_,rfl,_,rfl,a,us',i,v,rfl,rfl,hq',hv,v,_,rfl,.inr tv,_,rfl,rfl,?_⟩
     have e2 : Be xs (.int i) l = decide (levI (nums (xs.getD i.toNat [])).length = l) := by
      show (decide (0 <= i) && decide (i < (xs.length : Int)) && decide (levI (xs.getD i.toNat []).length = l)) = _
      rw [e']
      simp [nums]
     rw [e2] at k
     have e3 : decide (V.int (levI (nums (xs.getD i.toNat [])).length) = V.int l) = decide (levI (nums (xs.getD i.toNat [])).length = l) := by
      by_cases z : levI (nums (xs.getD i.toNat [])).length = l
      . simp [z]
      . simp [z]
     rw [e3]
     exact k
   . have e2 : Be xs d l = false := by
      cases d with
      | int i =>
        have e' : ¬ (decide (0 <= i) && decide (i < (xs.length : Int))) = true := e
        show (decide (0 <= i) && decide (i < (xs.length : Int)) && decide (levI (xs.getD i.toNat []).length = l)) = false
        rw [Bool.eq_false_iff.mpr e']
        rfl
      | _ => rfl
     rw [e2] at k
     exact k
abbrev Ea : Stmt := top 28
theorem Xm : FnScope ["thing"] ["thing"] (Af Ea) := ⟨rfl,rfl,rfl,by decide +kernel,rfl,by decide +kernel,by decide +kernel⟩
theorem Xv {f : Addr} {fd : FuncData} (F : Fun K "is_prime" "is_prime" Ea f fd) (T : Txt K mg C_Growth) (A3 : Has P w K mg base "is_whole_below" ["thing","bound"] 2 (Br K)) : FnOk P w K mg base CX0 3 f fd ["thing"] (Nr K) := by
 refine F.ok Xm (fun vs H Q E h => ?_) (fun cdv A outer s H vs Q E hr h => ?_)
 . obtain ⟨p,rfl,hP,h98,k⟩ := h
   rfl
 . obtain ⟨p,rfl,hP,h98,k⟩ := h
   obtain ⟨t_PRIME_BOUND,c_PRIME_BOUND⟩ := T.x_PRIME_BOUND
   refine ⟨_,(Ac (A6 (PW.pt (Kf (C0 (Ca (Al A3 hr (by rfl) (Aa (pv 0) (Aa (Xr (v := .int 98) (by rfl) c_PRIME_BOUND ⟨_,rfl⟩) Ad))))) (Iz (Am Ls (pv 0) Ah (Au _))))) (Ag (Ap Da)) Aq)
    (Ag (Ap (Ao (Rw (K := K) (by rfl)) (by rfl) T.n_all Ws (Aa (Cr (N' := ["number","thing"]) (cap := [none,some 0]) (by rfl) (by kernel_rfl) (Oc (by rfl) T.n_range (Aa Ah (Aa (pv 0) Ad))) (fun _ _ _ _ => (As (i := 0) A99 (by rfl) (by first | exact Or.inl rfl | exact Or.inr rfl))) (fun _ _ _ _ => Dr) (fun _ _ _ _ => (Od Oe (Ay Bm (pv 1) (pv 0)) Ah (Au _)))) Ad))))),?_⟩
   have h2 := hP.two
   refine ⟨_,rfl,.int p,.int p,98,rfl,rfl,_,rfl,?_⟩
   have hb : Pu (.int p) 98 = true := by
    show (decide (0 <= p) && decide (p < 98)) = true
    rw [decide_eq_true (by omega),decide_eq_true h98]
    rfl
   rw [hb]
   refine ifN (by simp) ?_
   refine ⟨_,rfl,_,_,rfl,rfl,_,rfl,?_⟩
   refine ifN (by simp; omega) ?_
   refine ⟨_,rfl,_,_,rfl,⟨by decide,by decide,by omega,by omega⟩,fun D hD => ?_⟩
   refine Pl (fun j ys τ H1 => j <= (p - 2).toNat /\ Same H H1 /\ H1 D = some (.lst ys) /\ (∃ bs : List Bool,ys = bs.map V.bl /\ bs.length = j /\ bs.all id = true) /\ ∃ o,τ = [o,some (.int p)])
    ⟨Nat.zero_le _,Same.new hD,Ab,⟨[],rfl,rfl,rfl⟩,none,rfl⟩ ?_ ?_
   . rintro j ys τ H1 hj ⟨_,s1,hD1,⟨bs,rfl,hbl,hba⟩,o,rfl⟩
     have hj2 : j < (p - 2).toNat := by omega
     refine ⟨_,rfl,_,rfl,_,_,rfl,rfl,(by show (0 : Int) < 2 + (j : Int); omega),rfl,?_⟩
     refine ⟨hD1,Cq (by rw [List.length_map]; omega),by omega,s1.turn hD,Ab,⟨bs ++ [!decide (V.int (p % (2 + (j : Int))) = V.int 0)],?_,by simp [hbl],?_⟩,_,rfl⟩
     . rw [List.map_append]
       rfl
     . rw [List.all_append,hba]
       have := hP.free (2 + (j : Int)) (by omega) (by omega)
       simp [this]
   . rintro ys τ H1 ⟨_,s1,hD1,⟨bs,rfl,hbl,hba⟩,_⟩
     refine ⟨D,bs,rfl,.of hD1,?_⟩
     rw [hba]
     exact k _ s1
abbrev Bf : Stmt := Oy (top 32) 2
theorem Lm : FnScope ["self","sheet","edge","birth","ender","by"] ["self","sheet","edge"] (Af Bf) := ⟨rfl,rfl,rfl,by decide +kernel,rfl,by decide +kernel,by decide +kernel⟩
theorem Bt : (["self","sheet","edge","birth","ender","by"] : List Str).Nodup := by decide +kernel
theorem Lw {f : Addr} {fd : FuncData} (F : Fun K "settled" "Growth.settled" Bf f fd) (T : Txt K mg C_Growth) (Ej : Has P w K mg base "counted" ["chain","prime"] 1 (Hy K)) (F8 : Has P w K mg base "turned_over" ["number","prime"] 2 (Sw K)) (Zg : Has P w K mg base "plus" ["one","other"] 2 (Xb K)) (T3 : Has P w K mg base "times" ["number","chain"] 1 (Su K)) : FnOk P w K mg base CX0 3 f fd ["self","sheet","edge"] (G7 K C_Growth) := by
 refine F.ok Lm (fun vs H Q E h => ?_) (fun cdv A outer s H vs Q E hr h => ?_)
 . obtain ⟨g,pc,sh,ed,en,sa,ea,p,xs,es,ss,bs,ms,me,l,pq,rfl,x,hs,he,nse,nee,oks,oke,ks,ke,shx,nwk,hlq,k⟩ := h
   rfl
 . obtain ⟨g,pc,sh,ed,en,sa,ea,p,xs,es,ss,bs,ms,me,l,pq,rfl,x,hs,he,nse,nee,oks,oke,ks,ke,shx,nwk,hlq,k⟩ := h
   have hu8 : (A.deeper (PyProof.Rows.envOfC "Growth.settled" (Af Bf) s.heap.objs.size f cdv)).units + 8 < cLine := by have := hr.units; omega
   refine ⟨_,(Ac (Y6 PassesOwn.never (PW.pt (Kg (Am Ac2 (Ao Pr (by rfl) T.n_len PySem.boot_len (Aa (pv 2) Ad)) Ah (Au _)) (Fw (Am (Ac1 (u1 hu8)) (Ao (Pq (by rfl)) (by rfl) T.n_max Fl (Aa (pv 2) Ad)) (Bv (K := K) (pv 0)) rfl)))) (Ac (Aw (i := 3) Bt (by rfl) (by first | exact Or.inl rfl | exact Or.inr rfl) (Ao (Pq (by rfl)) (by rfl) T.n_max Fl (Aa (pv 2) Ad)))
    (Ac (Aw (i := 4) Bt (by rfl) (by first | exact Or.inl rfl | exact Or.inr rfl) (Tg (u1 hu8) (Bv (K := K) (pv 0)) (pv 3) (fun _ _ => rfl)))
    (Ac (Aw (i := 5) Bt (by rfl) (by first | exact Or.inl rfl | exact Or.inr rfl) (Ay op_mulX (Xq Nn (Tg (u1 hu8) (pv 2) (pv 3) (fun _ _ => rfl))) (Al F8 hr (by rfl) (Aa (Tg (u1 hu8) (Bc (A1 (K := K)) (Bv (K := K) (pv 0)) (pv 4) (fun _ _ => rfl)) (pv 3) (fun _ _ => rfl)) (Aa (Bv (K := K) (pv 0)) Ad)))))
    (Ac (Aw (i := 1) Bt (by rfl) (by first | exact Or.inl rfl | exact Or.inr rfl) (Al Ej hr (by rfl) (Aa (Al Zg hr (by rfl) (Aa (pv 1) (Aa (Al T3 hr (by rfl) (Aa (pv 5) (Aa (Bc (A1 (K := K)) (Bv (K := K) (pv 0)) (pv 4) (fun _ _ => rfl)) Ad))) Ad))) (Aa (Bv (K := K) (pv 0)) Ad))))
    (Ag (Aw (i := 2) Bt (by rfl) (by first | exact Or.inl rfl | exact Or.inr rfl) (Al Ej hr (by rfl) (Aa (Al Zg hr (by rfl) (Aa (pv 2) (Aa (Al T3 hr (by rfl) (Aa (pv 5) (Aa (Bc (A1 (K := K)) (Bv (K := K) (pv 0)) (pv 4) (fun _ _ => rfl)) Ad))) Ad))) (Aa (Bv (K := K) (pv 0)) Ad))))))))))
    (Ag (Ap (Cd (Aa (pv 1) (Aa (pv 2) Ad)))))),?_⟩
   obtain ⟨dx,fs,hg,l1,l2,l3,l4,l5,lm⟩ := x.ob
   have hp2 := x.pr.1.two
   have hp98 := x.pr.2
   have n40 := x.gw.n40
   refine Ar (fun σ' H' => ∃ (s' e' : Addr) (ms' me' : Ms) (o3 o4 o5 : Option V),σ' = [some (.ref g),some (.ref s'),some (.ref e'),o3,o4,o5] /\ Same H H' /\ H' s' = some (.dK (cK ms')) /\ H' e' = some (.dK (cK me')) /\ s' ≠ en /\ e' ≠ en /\ OkM p ms' /\ OkM p me' /\ (∀ x ∈ Az ms',0 <= x /\ x <= (xs.length : Int)) /\ (∀ x ∈ Az me',0 <= x /\ x < (xs.length : Int) /\ (xs.getD x.toNat []).length - 1 + 1 = l) /\ Nf p xs pq ms' me' /\ (∀ b,Top me' b -> A0 bs b = none)) ?_ fun key => ?_
   rotate_left
   . refine ⟨fun m σ' H' => ∃ (s' e' : Addr) (ms' me' : Ms) (o3 o4 o5 : Option V),σ' = [some (.ref g),some (.ref s'),some (.ref e'),o3,o4,o5] /\ Same H H' /\ H' s' = some (.dK (cK ms')) /\ H' e' = some (.dK (cK me')) /\ s' ≠ en /\ e' ≠ en /\ OkM p ms' /\ OkM p me' /\ (∀ x ∈ Az ms',0 <= x /\ x <= (xs.length : Int)) /\ (∀ x ∈ Az me',0 <= x /\ x < (xs.length : Int) /\ (xs.getD x.toNat []).length - 1 + 1 = l) /\ Nf p xs pq ms' me' /\ ∀ x ∈ Az me',x < (m : Int),⟨xs.length,sa,ea,ms,me,none,none,none,rfl,Same.refl H,hs,he,nse,nee,oks,oke,ks,ke,nwk,fun x hx => (ke x hx).2.1⟩,?_⟩
     rintro m σ G ⟨s',e',ms',me',o3,o4,o5,rfl,g1,hs',he',ns',ne',ok1,ok2,k1,k2,hem,hlt⟩
     have xg := x.same g1
     have hgG := g1 _ _ hg
     refine ⟨_,rfl,e',cK me',rfl,he',_,_,rfl,rfl,_,rfl,?_⟩
     by_cases hz : me' = []
     . subst hz
       refine ite2 (fun h1 => absurd h1 (by simp [cK])) (fun _ => ?_)
       refine ifN (by simp) ?_
       exact key _ _ ⟨s',e',ms',[],o3,o4,o5,rfl,g1,hs',he',ns',ne',ok1,ok2,k1,k2,hem,fun b hb => (Top.no hb).elim⟩
     have hlen : 0 < me'.length := List.length_pos_iff.mpr hz
     refine ifP (by rw [Ji]; simpa using hlen) ?_
     refine ⟨_,rfl,e',Az me',cK me',rfl,he',Yb me',Ya hz,fun b hb1 hb2 => ?_⟩
     have tb : Top me' b := ⟨hb1,hb2⟩
     refine ⟨_,rfl,g,C_Growth,dx,fs,_,rfl,hgG,T.cl_Growth,T.na_Growth_enders,l5,en,cK bs,.inl b,rfl,xg.ens,rfl,_,rfl,?_⟩
     cases hlk : A0 bs b with
     | none =>
       refine ifN (by rw [K4,hlk]; simp) ?_
       exact key _ _ ⟨s',e',ms',me',o3,o4,o5,rfl,g1,hs',he',ns',ne',ok1,ok2,k1,k2,hem,fun b' hb' => by rw [Top.one hb' tb]; exact hlk⟩
     | some en0 =>
       refine ifP (by rw [K4,hlk]; rfl) ?_
       obtain ⟨i,mi,rfl,hi,ti⟩ := (x.gw.bls b en0).mp hlk
       have hil : i < xs.length := by rw [← x.gw.le]; exact (List.getElem?_eq_some_iff.mp hi).1
       obtain ⟨oki,kki⟩ := x.gw.eok i mi hi
       obtain ⟨ds,d,hed,hdi,hd,nde⟩ := xg.eds.get hi
       obtain ⟨si,hsi⟩ : ∃ si,ss[i]? = some si := ⟨_,List.getElem?_eq_getElem (by rw [x.gw.ls]; exact hil)⟩
       obtain ⟨okS,kS⟩ := x.gw.sok i si hsi
       obtain ⟨cs,c,hsh,hci,hc,nc⟩ := xg.shs.get hsi
       obtain ⟨q1,q2,q3⟩ := tb.look ok2
       obtain ⟨r1,r2,r3⟩ := ti.look oki
       have hatd : atI (ds.map V.ref) (i : Int) = some (.ref d) := Cl (by rw [List.getElem?_map,hdi]; rfl)
       have hatc : atI (cs.map V.ref) (i : Int) = some (.ref c) := Cl (by rw [List.getElem?_map,hci]; rfl)
       have kS40 : ∀ x ∈ Az si,0 <= x /\ x <= 40 := fun x hx => by have := kS x hx; omega
       have kI40 : ∀ x ∈ Az mi,0 <= x /\ x <= 40 := fun x hx => by have := kki x hx; omega
       have k140 : ∀ x ∈ Az ms',0 <= x /\ x <= 40 := fun x hx => by have := k1 x hx; omega
       have k240 : ∀ x ∈ Az me',0 <= x /\ x <= 40 := fun x hx => by have := k2 x hx; omega
       refine ⟨fun σ' H' => ∃ (s' e' : Addr) (ms' me' : Ms) (o3 o4 o5 : Option V),σ' = [some (.ref g),some (.ref s'),some (.ref e'),o3,o4,o5] /\ Same H H' /\ H' s' = some (.dK (cK ms')) /\ H' e' = some (.dK (cK me')) /\ s' ≠ en /\ e' ≠ en /\ OkM p ms' /\ OkM p me' /\ (∀ x ∈ Az ms',0 <= x /\ x <= (xs.length : Int)) /\ (∀ x ∈ Az me',0 <= x /\ x < (xs.length : Int) /\ (xs.getD x.toNat []).length - 1 + 1 = l) /\ Nf p xs pq ms' me' /\ ∀ x ∈ Az me',x < b,?_,?_⟩
       . rintro σ' G' ⟨s2,e2,ms2,me2,p3,p4,p5,rfl,t1,t2,t3,t4,t5,t6,t7,t8,t9,t10,t11⟩
         have b1 := hlt b tb.mem
         have b0 := (k2 b tb.mem).1
         exact ⟨b.toNat,by omega,s2,e2,ms2,me2,p3,p4,p5,rfl,t1,t2,t3,t4,t5,t6,t7,t8,t9,t10,fun x hx => by have := t11 x hx; omega⟩
       refine ⟨_,rfl,e',Az me',cK me',rfl,he',Yb me',Ya hz,fun b' hb1' hb2' => ?_⟩
       obtain rfl : b' = b := Top.one ⟨hb1',hb2'⟩ tb
       refine ⟨_,rfl,g,C_Growth,dx,fs,_,rfl,hgG,T.cl_Growth,T.na_Growth_enders,l5,_,rfl,en,.int (i : Int),rfl,Ug (.inl xg.ens) hlk,?_⟩
       refine ⟨_,rfl,_,rfl,e',.int (getI me' b'),rfl,Ug (.inl he') q1,_,rfl,?_⟩
       refine ⟨_,rfl,g,C_Growth,dx,fs,_,rfl,hgG,T.cl_Growth,T.na_Growth_edges,l4,_,rfl,ed,_,_,.ref d,rfl,rfl,.of hed,hatd,_,rfl,d,.int (getI mi b'),rfl,Ug (.inl hd) r1,_,rfl,g,C_Growth,dx,fs,_,rfl,hgG,T.cl_Growth,T.na_Growth_prime,l1,getI mi b',p,rfl,x.pr.1,x.pr.2,ndvd r2 r3,fun f G1 g2 f0 f1 hdv => ?_⟩
       refine ⟨_,_,rfl,rfl,Mx (by omega) (by omega),?_⟩
       have hn : -(10000 : Int) < -(getI me' b') * f /\ -(getI me' b') * f <= 0 := An6 q2 q3 f0 f1 hp98
       have ss1 := Xj (by omega) ok2 oki tb ti hdv
       have ss2 := Wf (p := p) (n := -(getI me' b') * f) (by omega) ok1 okS
       generalize hnn : -(getI me' b') * f = n at hn ss1 ss2
       have hsG := g2 _ _ hs'
       have hcG := g2 _ _ hc
       refine ⟨_,rfl,_,rfl,_,rfl,g,C_Growth,dx,fs,_,rfl,g2 _ _ hgG,T.cl_Growth,T.na_Growth_sheets,l3,_,rfl,sh,_,_,_,rfl,rfl,.of (g2 _ _ hsh),hatc,n,c,si,(by rw [← hnn] <;> rfl),g2 _ _ hc,?_,fun q hq => Mx (by omega) (by omega),fun TC1 GTC1 hTC1 gTC1 eTC1 => ?_⟩
       . have := D1 okS.nd kS40
         omega
       have ltC1 : (A7 n si).length <= 41 := Nat.le_trans (Uy ..) (D1 okS.nd kS40)
       have lbC1 : ms'.length <= 41 := D1 ok1.nd k140
       have lpC1 := Nj (A7 n si) ms'
       have ntC1 : nd (A7 n si) := Ng okS.nd
       obtain ⟨npC1,_,_,_⟩ := Js (A7 n si) ms' ok1.nd ok1.nz ntC1
       refine ⟨s',TC1,ms',A7 n si,rfl,.inl (gTC1 _ _ (g2 _ _ hs')),eTC1,by omega,by omega,fun PC1 GPC1 hPC1 gPC1 ePC1 => ?_⟩
       have gC1 := (g2.trans gTC1).trans gPC1
       refine ⟨_,rfl,g,C_Growth,dx,fs,_,rfl,gC1 _ _ hgG,T.cl_Growth,T.na_Growth_prime,l1,PC1,_,p,rfl,ePC1,by omega,npC1,by omega,fun C1 GC1 hC1 ggC1 eC1 => ?_⟩
       have g3 := gC1.trans ggC1
       refine ⟨_,rfl,_,rfl,_,rfl,g,C_Growth,dx,fs,_,rfl,g3 _ _ hgG,T.cl_Growth,T.na_Growth_edges,l4,_,rfl,ed,_,_,_,rfl,rfl,.of (g3 _ _ hed),hatd,n,d,mi,(by rw [← hnn] <;> rfl),g3 _ _ hd,?_,fun q hq => Mx (by omega) (by omega),fun TC2 GTC2 hTC2 gTC2 eTC2 => ?_⟩
       . have := D1 oki.nd kI40
         omega
       have ltC2 : (A7 n mi).length <= 41 := Nat.le_trans (Uy ..) (D1 oki.nd kI40)
       have lbC2 : me'.length <= 41 := D1 ok2.nd k240
       have lpC2 := Nj (A7 n mi) me'
       have ntC2 : nd (A7 n mi) := Ng oki.nd
       obtain ⟨npC2,_,_,_⟩ := Js (A7 n mi) me' ok2.nd ok2.nz ntC2
       refine ⟨e',TC2,me',A7 n mi,rfl,.inl (gTC2 _ _ (g3 _ _ he')),eTC2,by omega,by omega,fun PC2 GPC2 hPC2 gPC2 ePC2 => ?_⟩
       have gC2 := (g3.trans gTC2).trans gPC2
       refine ⟨_,rfl,g,C_Growth,dx,fs,_,rfl,gC2 _ _ hgG,T.cl_Growth,T.na_Growth_prime,l1,PC2,_,p,rfl,ePC2,by omega,npC2,by omega,fun C2 GC2 hC2 ggC2 eC2 => ?_⟩
       have g4 := gC2.trans ggC2
       have en1 := gC1 _ _ xg.ens
       have en2 := gC2 _ _ xg.ens
       have gg1 := ((gTC2.trans gPC2).trans ggC2)
       refine ⟨C1,C2,_,_,_,_,_,rfl,g1.trans g4,gg1 _ _ eC1,eC2,(Ak en1 hC1).symm,(Ak en2 hC2).symm,ss2.1,ss1.1,fun y hy => ?_,fun y hy => ?_,hem.step hp2 x.gw shx hsi hi ok1 ok2 (by have v := (kki b' ti.mem).2.2; have w := (k2 b' tb.mem).2.2; omega),fun y hy => (ss1.2 y hy).1⟩
       . rcases ss2.2 y hy with z | z
         . exact k1 y z
         . have := kS y z
           omega
       . rcases (ss1.2 y hy).2 with z | z
         . exact k2 y z
         . obtain ⟨u1,u2,u3⟩ := kki y z
           obtain ⟨v1,v2,v3⟩ := kki b' ti.mem
           obtain ⟨w1,w2,w3⟩ := k2 b' tb.mem
           exact ⟨u1,by omega,by omega⟩
   rintro _ G ⟨s',e',ms',me',o3,o4,o5,rfl,g1,hs',he',ns',ne',ok1,ok2,k1,k2,hem,hno⟩
   refine ⟨_,rfl,_,rfl,A9 (by simp),fun t ht => ?_⟩
   have st : Same G (upd G t (.tup [.ref s',.ref e'])) := Same.new ht
   exact k t s' e' ms' me' _ (g1.trans st) Ab (st _ _ hs') (st _ _ he') ns' ne' ok1 ok2 k1 k2 hno hem
abbrev B6 : Stmt := Oy (top 32) 5
theorem N5 : FnScope ["self","place"] ["self","place"] (Af B6) := ⟨rfl,rfl,rfl,by decide +kernel,rfl,by decide +kernel,by decide +kernel⟩
theorem Og {f : Addr} {fd : FuncData} (F : Fun K "paper" "Growth.paper" B6 f fd) (T : Txt K mg C_Growth) (A3 : Has P w K mg base "is_whole_below" ["thing","bound"] 2 (Br K)) : FnOk P w K mg base CX0 3 f fd ["self","place"] (Nx K C_Growth) := by
 refine F.ok N5 (fun vs H Q E h => ?_) (fun cdv A outer s H vs Q E hr h => ?_)
 . obtain ⟨g,pc,sh,ed,en,p,xs,es,ss,bs,s,i,rfl,x,hs,k⟩ := h
   rfl
 . obtain ⟨g,pc,sh,ed,en,p,xs,es,ss,bs,s,i,rfl,x,hs,k⟩ := h
   refine ⟨_,(Ac (A6 (C0 (Ca (Al A3 hr (by rfl) (Aa (pv 1) (Aa (Ao (Aj (K := K)) (by rfl) T.n_len PySem.boot_len (Aa (Bv (K := K) (pv 0)) Ad)) Ad))))) (Ag Nh) Aq)
    (Ag (Ap (C5 R9 (by rfl) T.n_dict Fm (Aa (Bc (A1 (K := K)) (Bv (K := K) (pv 0)) (pv 1) (fun _ _ => rfl)) Ad))))),?_⟩
   obtain ⟨dx,fs,hg,l1,l2,l3,l4,l5,lm⟩ := x.ob
   obtain ⟨us,hpc,r⟩ := x.pcs
   have hul : us.length = xs.length := by have := r.length; simpa using this
   have hil : i < xs.length := by rw [← x.gw.ls]; exact (List.getElem?_eq_some_iff.mp hs).1
   obtain ⟨cs,c,hsh,hci,hc,nc⟩ := x.shs.get hs
   have hb : Pu (.int (i : Int)) (us.length : Int) = true := by
    show (decide (0 <= (i : Int)) && decide ((i : Int) < (us.length : Int))) = true
    rw [decide_eq_true (by omega),decide_eq_true (by omega)]
    rfl
   refine ⟨_,rfl,_,rfl,g,C_Growth,dx,fs,_,rfl,hg,T.cl_Growth,T.na_Growth_pieces,l2,pc,us,rfl,.inl (.of hpc),.int (i : Int),.int (i : Int),_,rfl,rfl,_,rfl,?_⟩
   rw [hb]
   refine ifN (by decide) ?_
   have hatc : atI (cs.map V.ref) (i : Int) = some (.ref c) := Cl (by rw [List.getElem?_map,hci]; rfl)
   exact ⟨_,rfl,g,C_Growth,dx,fs,_,rfl,hg,T.cl_Growth,T.na_Growth_sheets,l3,_,rfl,sh,_,_,_,rfl,rfl,.of hsh,hatc,c,cK s,rfl,.inl hc,fun D hD => k D _ hD (Same.new hD) Ab⟩
abbrev Ib : Stmt := top 41
theorem z9 : FnScope ["_law_pieces","_law_cell","_law_level_here","_law_faces","_law_j","_law_meet"] ["_law_pieces","_law_cell"] (Af Ib) := ⟨rfl,rfl,rfl,by decide +kernel,rfl,by decide +kernel,by decide +kernel⟩
theorem Fc : (["_law_pieces","_law_cell","_law_level_here","_law_faces","_law_j","_law_meet"] : List Str).Nodup := by decide +kernel
theorem Ac6 {f : Addr} {fd : FuncData} (F : Fun K "_law_next" "_law_next" Ib f fd) (T : Txt K mg C_Growth) (T4 : Has P w K mg base "_law_side" ["_law_pieces","_law_cell"] 2 (Nv K)) (Ff : Has P w K mg base "_law_meets" ["_law_pieces","_law_faces","_law_face"] 1 (J9 K)) (Ga : Has P w K mg base "_law_pick" ["_law_cell","_law_j","_law_many"] 1 (Ka K)) (Cf : Has P w K mg base "_law_level" ["_law_piece"] 1 (Bx K)) : FnOk P w K mg base CX0 3 f fd ["_law_pieces","_law_cell"] (Nw K) := by
 refine F.ok z9 (fun vs H Q E h => ?_) (fun cdv A outer s H vs Q E hr h => ?_)
 . obtain ⟨a,xs,c,rfl,hL,hC,hxl,k⟩ := h
   rfl
 . obtain ⟨a,xs,c,rfl,hL,hC,hxl,k⟩ := h
   refine ⟨_,(Ac (Aw (i := 2) Fc (by rfl) (by first | exact Or.inl rfl | exact Or.inr rfl) (PEw.h (Ax1 (K := K) (Ap1 (ns := [0,1,1,2,1,2,3,2]) (by kernel_rfl)) (Ay Bm (pv 1) Ah) (fun _ _ => rfl))))
    (Ac (Aw (i := 3) Fc (by rfl) (by first | exact Or.inl rfl | exact Or.inr rfl) (Cd Ad))
    (Ac (A6 (Am Db (pv 2) Ah (Au _)) (Ag (Ap (Cd Ad))) Aq)
    (Ac (Cb PassesOwn.never rfl (B3 (by rfl) T.n_range (Aa (Ay Es (pv 2) Ah) Ad)) (As (i := 4) Fc (by rfl) (by first | exact Or.inl rfl | exact Or.inr rfl)) (Ac (S9 (N' := ["_law_face","_law_pieces","_law_level_here"]) (cap := [none,some 0,some 2]) (i := 5) Fc (by rfl) (by first | exact Or.inl rfl | exact Or.inr rfl) (by rfl) (by kernel_rfl) (B3 (by rfl) T.n_range (Aa (Ao (Aj (K := K)) (by rfl) T.n_len PySem.boot_len (Aa (pv 0) Ad)) Ad)) (fun _ _ _ _ => (As (i := 0) A60 (by rfl) (by first | exact Or.inl rfl | exact Or.inr rfl))) (fun _ _ _ _ => (G8 (Am Db (Ay Es (Al Cf hr (by rfl) (Aa (Bc (A1 (K := K)) (pv 1) (pv 0) (fun _ _ => rfl)) Ad)) Ah) (pv 2) (Au _)))) (fun _ _ _ _ => (pv 0)))
    (Ac (S9 (N' := ["_law_face","_law_pieces","_law_faces"]) (cap := [none,some 0,some 3]) (i := 5) Fc (by rfl) (by first | exact Or.inl rfl | exact Or.inr rfl) (by rfl) (by kernel_rfl) (Co (K := K) (pv 5)) (fun _ _ _ _ => (As (i := 0) A96 (by rfl) (by first | exact Or.inl rfl | exact Or.inr rfl))) (fun _ _ _ _ => (G8 (Ca (Al Ff hr (by rfl) (Aa (pv 1) (Aa (pv 2) (Aa (pv 0) Ad))))))) (fun _ _ _ _ => (pv 0)))
    (Ac (A6 (Am Db (Ao (Aj (K := K)) (by rfl) T.n_len PySem.boot_len (Aa (pv 5) Ad)) Ah (Au _)) (Ac (A6 (PW.pt (Kg (Am Ac2 (pv 2) Ah (Au _)) (Fw (Am Db (pv 4) (pv 2) (Au _))))) (Ag (Ap (C5 (Dn (K := K)) (by rfl) T.n_tuple Cw (Aa (Cr (N' := ["_law_face","_law_pieces","_law_j"]) (cap := [none,some 0,some 4]) (by rfl) (by kernel_rfl) (L5 (K := K) (pv 3)) (fun _ _ _ _ => (As (i := 0) A97 (by rfl) (by first | exact Or.inl rfl | exact Or.inr rfl))) (fun _ _ _ _ => Dr) (fun _ _ _ _ => (Bc (Bb (K := K)) (Bc (A1 (K := K)) (pv 1) (pv 0) (fun _ _ => rfl)) (Ay Kk (pv 2) Ah) (fun _ _ => rfl)))) Ad)))) Aq)
    (Ag (Ap (Al T4 hr (by rfl) (Aa (pv 0) (Aa (pv 1) Ad)))))) Aq)
    (Ag (Aw (i := 3) Fc (by rfl) (by first | exact Or.inl rfl | exact Or.inr rfl) (Ay (Kr (K := K)) (pv 3) (Cd (Aa (Bc (A1 (K := K)) (pv 5) (Al Ga hr (by rfl) (Aa (pv 1) (Aa (pv 4) (Aa (Ao (Aj (K := K)) (by rfl) T.n_len PySem.boot_len (Aa (pv 5) Ad)) Ad)))) (fun _ _ => rfl)) Ad)))))))))
    (Ag (Ap (pv 3))))))),?_⟩
   obtain ⟨us,hq,ul⟩ := LT.len hL
   have p8 : (0 : Int) < 8 := by decide
   have c0 := Int.emod_nonneg c (show (8 : Int) ≠ 0 by decide)
   have c1 := Int.emod_lt_of_pos c p8
   refine Ar (fun σ' H' => ∃ lh : Int,σ' = [some (.ref a),some (.int c),some (.int lh),none,none,none] /\ Same H H' /\ 0 <= lh /\ lh <= 3) ?_ fun key => ?_
   rotate_left
   . refine ⟨A9 (by simp),fun T1 hT1 => ?_⟩
     obtain ⟨x,hx,x0,x1⟩ : ∃ x,atI (([0,1,1,2,1,2,3,2] : List Int).map V.int) (c % 8) = some (.int x) /\ 0 <= x /\ x <= 3 := by
      rcases (show c % 8 = 0 \/ c % 8 = 1 \/ c % 8 = 2 \/ c % 8 = 3 \/ c % 8 = 4 \/ c % 8 = 5 \/ c % 8 = 6 \/ c % 8 = 7 by omega) with e | e | e | e | e | e | e | e <;> rw [e] <;> exact ⟨_,rfl,by decide,by decide⟩
     refine ⟨_,rfl,_,_,rfl,rfl,p8,T1,_,_,_,rfl,rfl,.of Ab,hx,?_⟩
     exact key _ _ ⟨x,rfl,Same.new hT1,x0,x1⟩
   rintro _ H1 ⟨lh,rfl,s1,l0,l3⟩
   refine Ar (fun σ' H' => ∃ F0 : Addr,σ' = [some (.ref a),some (.int c),some (.int lh),some (.ref F0),none,none] /\ Same H H' /\ H' F0 = some (.tup [])) ?_ fun key => ?_
   rotate_left
   . refine ⟨Nat.zero_le _,fun F0 hF0 => ?_⟩
     exact key _ _ ⟨F0,rfl,s1.trans (Same.new hF0),Ab⟩
   rintro _ H2 ⟨F0,rfl,s2,hF0⟩
   refine Ar (fun σ' H' => σ' = [some (.ref a),some (.int c),some (.int lh),some (.ref F0),none,none] /\ H2 = H' /\ ¬ lh = 0) ?_ fun key => ?_
   rotate_left
   . refine ⟨_,rfl,rfl,_,rfl,?_⟩
     refine ite2 (fun _ => ?_) (fun h => key _ _ ⟨rfl,rfl,by simpa using h⟩)
     refine ⟨Nat.zero_le _,fun T1 hT1 => ?_⟩
     exact k (.ref T1) [] _ (s2.trans (Same.new hT1)) (TI.mk (.of Ab))
   rintro _ _ ⟨rfl,rfl,hl0⟩
   refine ⟨_,rfl,_,_,rfl,rfl,_,rfl,by omega,by omega,?_⟩
   refine B4 (lo := 0) (n := (lh + 1).toNat) (fun j σ G => ∃ (v : V) (fs : List Int) (o4 o5 : Option V),σ = [some (.ref a),some (.int c),some (.int lh),some v,o4,o5] /\ Same H G /\ TI K G v fs /\ fs.length = j /\ (∀ x ∈ fs,0 <= x /\ x < (xs.length : Int) /\ levI (xs.getD x.toNat []).length + 1 = lh))
    ⟨.ref F0,[],none,none,rfl,s2,TI.mk (.of hF0),rfl,fun x hx => by cases hx⟩ ?_ ?_
   . rintro j σ G hj ⟨v,fs,o4,o5,rfl,g,tv,hfl,hfs⟩
     rw [show (0 : Int) + (j : Int) = (j : Int) by omega]
     have hjl : (j : Int) <= lh := by omega
     refine Ar (fun σ' H' => ∃ (M : Addr) (ms : List Int),σ' = [some (.ref a),some (.int c),some (.int lh),some v,some (.int (j : Int)),some (.ref M)] /\ Same G H' /\ H' M = some (.lst (ms.map V.int)) /\ ms.length <= 1000 /\ ∀ x ∈ ms,0 <= x /\ x < (xs.length : Int) /\ levI (xs.getD x.toNat []).length + 1 = lh) ?_ fun key => ?_
     rotate_left
     . refine ⟨_,rfl,a,us,rfl,.inl (g.seq hq),_,rfl,by omega,by omega,fun D hD => ?_⟩
       refine Fh (fun i ys τ G1 => Same G G1 /\ G1 D = some (.lst ys) /\ (∃ ms : List Int,ys = ms.map V.int /\ ms.length <= i /\ ∀ x ∈ ms,0 <= x /\ x < (xs.length : Int) /\ levI (xs.getD x.toNat []).length + 1 = lh) /\ ∃ o,τ = [o,some (.ref a),some (.int lh)])
        ⟨Same.new hD,Ab,⟨[],rfl,Nat.le_refl _,fun x hx => (by cases hx)⟩,none,rfl⟩ ?_ ?_
       . rintro i ys τ G1 hi ⟨g1,hDG,⟨ms,rfl,hml,hms⟩,o,rfl⟩
         rw [show (0 : Int) + (i : Int) = (i : Int) by omega]
         have hi2 : i < xs.length := by omega
         obtain ⟨u1,v1,hu1,av1,tv1⟩ := LT.get (i := (i : Int)) (Rep.same (g.trans g1) hL) (by omega) (by omega)
         refine ⟨_,rfl,_,rfl,a,u1,_,v1,rfl,rfl,hu1,av1,v1,nums _,rfl,.inr tv1,_,_,rfl,rfl,_,rfl,rfl,_,rfl,?_⟩
         rw [show (nums (xs.getD ((i : Int)).toNat [])).length = (xs.getD ((i : Int)).toNat []).length from List.length_map ..]
         refine ite2 (fun h1 => ?_) (fun h1 => ?_)
         . have e : levI (xs.getD ((i : Int)).toNat []).length + 1 = lh := by
            by_cases z : levI (xs.getD ((i : Int)).toNat []).length + 1 = lh
            . exact z
            . exact absurd h1 (noI z)
           refine ⟨_,rfl,hDG,Cq (by rw [List.length_map]; omega),g1.turn hD,Ab,⟨ms ++ [(i : Int)],by simp,by simp; omega,fun x hx => ?_⟩,_,rfl⟩
           rcases List.mem_append.mp hx with z | z
           . exact hms x z
           . rw [List.mem_singleton] at z
             subst z
             exact ⟨by omega,by omega,e⟩
         . exact ⟨g1,hDG,⟨ms,rfl,by omega,hms⟩,_,rfl⟩
       . rintro ys τ G1 ⟨g1,hDG,⟨ms,rfl,hml,hms⟩,_⟩
         exact key _ _ ⟨D,ms,rfl,g1,hDG,by omega,hms⟩
     rintro _ G1 ⟨M1,ms1,rfl,g1,hM1,hml1,hms1⟩
     have tv1 := TI.same g1 tv
     have gg1 := g.trans g1
     refine Ar (fun σ' H' => ∃ (M : Addr) (ms : List Int),σ' = [some (.ref a),some (.int c),some (.int lh),some v,some (.int (j : Int)),some (.ref M)] /\ Same G1 H' /\ H' M = some (.lst (ms.map V.int)) /\ ms.length <= 1000 /\ ∀ x ∈ ms,0 <= x /\ x < (xs.length : Int) /\ levI (xs.getD x.toNat []).length + 1 = lh) ?_ fun key => ?_
     rotate_left
     . refine ⟨_,rfl,M1,rfl,⟨_,.of hM1⟩,fun D hD => ?_⟩
       refine We (K := K) (a := M1) (xs := ms1.map V.int) (fun i ys τ G2 => Same G1 G2 /\ G2 D = some (.lst ys) /\ (∃ ms : List Int,ys = ms.map V.int /\ ms.length <= i /\ ∀ x ∈ ms,0 <= x /\ x < (xs.length : Int) /\ levI (xs.getD x.toNat []).length + 1 = lh) /\ ∃ o,τ = [o,some (.ref a),some v])
        ⟨Same.new hD,Ab,⟨[],rfl,Nat.le_refl _,fun x hx => (by cases hx)⟩,none,rfl⟩ (fun i ys τ G2 _ ⟨g2,_⟩ => .of (g2 _ _ hM1)) ?_ ?_
       . rintro i y ys τ G2 hy ⟨g2,hDG,⟨ms,rfl,hml,hms⟩,o,rfl⟩
         have hi : i < ms1.length := by have := (List.getElem?_eq_some_iff.mp hy).1; simpa using this
         have hyv : y = .int ms1[i] := by
          rw [List.getElem?_map,List.getElem?_eq_getElem hi] at hy
          simpa using hy.symm
         subst hyv
         obtain ⟨x0,x1,x2⟩ := hms1 _ (List.getElem_mem hi)
         generalize ms1[i] = x at x0 x1 x2
         refine ⟨_,rfl,_,rfl,_,rfl,a,v,xs,fs,x,rfl,Rep.same (gg1.trans g2) hL,TI.same g2 tv1,x0,x1,fun y hy => ⟨(hfs y hy).1,(hfs y hy).2.1⟩,by omega,(by
         have hcx := hC.at x0 x1
         rw [Bu] at x2
         by_cases hz : (xs.getD x.toNat []).length = 0
         . exact .inl hz
         . refine .inr ⟨by omega,fun y hy => ?_⟩
           obtain ⟨y0,y1,y2⟩ := hfs y hy
           have hcy := hC.at y0 y1
           rw [Bu] at y2
           omega),?_⟩
         refine ⟨_,rfl,?_⟩
         refine ite2 (fun h1 => ?_) (fun h1 => ?_)
         . refine ⟨_,rfl,hDG,Cq (by rw [List.length_map]; omega),g2.turn hD,Ab,⟨ms ++ [x],by simp,by simp; omega,fun y hy => ?_⟩,_,rfl⟩
           rcases List.mem_append.mp hy with z | z
           . exact hms y z
           . rw [List.mem_singleton] at z
             subst z
             exact ⟨x0,x1,x2⟩
         . exact ⟨g2,hDG,⟨ms,rfl,by omega,hms⟩,_,rfl⟩
       . rintro ys τ G2 ⟨g2,hDG,⟨ms,rfl,hml,hms⟩,_⟩
         rw [List.length_map] at hml
         exact key _ _ ⟨D,ms,rfl,g2,hDG,by omega,hms⟩
     rintro _ G2 ⟨M,ms,rfl,g2,hM,hml,hms⟩
     have gg := gg1.trans g2
     have tv2 := TI.same g2 tv1
     have me : (ms.map V.int).length = ms.length := List.length_map ..
     obtain ⟨af,rfl,sqf⟩ := TI.sq tv2
     refine Ar (fun σ' H' => σ' = [some (.ref a),some (.int c),some (.int lh),some (.ref af),some (.int (j : Int)),some (.ref M)] /\ G2 = H' /\ 0 < (ms.length : Int)) ?_ fun key => ?_
     rotate_left
     . refine ⟨_,rfl,M,_,rfl,.inl (.of hM),rfl,_,rfl,?_⟩
       rw [me]
       refine ite2 (fun h1 => ?_) (fun h1 => ?_)
       rotate_left
       . have : ¬ ms.length = 0 := fun z => h1 (by rw [z]; rfl)
         exact key _ _ ⟨rfl,rfl,by omega⟩
       refine ⟨_,rfl,_,_,rfl,rfl,_,rfl,?_⟩
       refine ite2 (fun h2 => ?_) (fun h2 => ?_)
       rotate_left
       . refine ifN (by simp) ?_
         exact ⟨_,rfl,_,rfl,a,xs,c,rfl,Rep.same gg hL,hxl,fun w p H' s' tw => k w p H' (gg.trans s') tw⟩
       refine ⟨_,rfl,_,rfl,rfl,_,rfl,?_⟩
       refine ite2 (fun h3 => ?_) (fun h3 => ?_)
       rotate_left
       . exact ⟨_,rfl,_,rfl,a,xs,c,rfl,Rep.same gg hL,hxl,fun w p H' s' tw => k w p H' (gg.trans s') tw⟩
       have hlh : 1 < lh := by simpa using h2
       have hje : (j : Int) = lh := by simpa using h3
       refine ⟨_,rfl,af,rfl,⟨_,sqf⟩,fun D hD => ?_⟩
       refine Pk (K := K) (a := af) (xs := fs.map V.int) (fun i ys τ G3 => Same G2 G3 /\ G3 D = some (.lst ys) /\ (∃ ps : List Int,ys = ps.map V.int /\ ps.length <= i) /\ ∃ o,τ = [o,some (.ref a),some (.int (j : Int))])
        ⟨Same.new hD,Ab,⟨[],rfl,Nat.le_refl _⟩,none,rfl⟩ (fun i ys τ G3 _ ⟨g3,_⟩ => g3.seqT sqf) ?_ ?_
       . rintro i y ys τ G3 hy ⟨g3,hDG,⟨ps,rfl,hpl⟩,o,rfl⟩
         have hi : i < fs.length := by have := (List.getElem?_eq_some_iff.mp hy).1; simpa using this
         have hyv : y = .int fs[i] := by
          rw [List.getElem?_map,List.getElem?_eq_getElem hi] at hy
          simpa using hy.symm
         subst hyv
         obtain ⟨x0,x1,x2⟩ := hfs _ (List.getElem_mem hi)
         generalize fs[i] = x at x0 x1 x2
         have hcx := hC.at x0 x1
         rw [Bu] at x2
         obtain ⟨u1,v1,hu1,av1,tv1'⟩ := LT.get (Rep.same (gg.trans g3) hL) x0 x1
         obtain ⟨b1,rfl,hb1⟩ := tv1'.sq
         refine ⟨_,rfl,_,rfl,a,u1,_,_,rfl,rfl,hu1,av1,_,rfl,_,_,rfl,rfl,b1,_,_,_,rfl,rfl,hb1,M3 (by omega) (by omega),hDG,Cq (by rw [List.length_map]; omega),g3.turn hD,Ab,⟨ps ++ [_],by rw [List.map_append]; rfl,by simp; omega⟩,_,rfl⟩
       . rintro ys τ G3 ⟨g3,hDG,⟨ps,rfl,hpl⟩,_⟩
         refine ⟨D,_,rfl,.inl ⟨.of hDG,fun T1 hT1 => ?_⟩⟩
         exact k (.ref T1) ps _ ((gg.trans g3).trans (Same.new hT1)) (TI.mk (.of Ab))
     rintro _ _ ⟨rfl,rfl,hpos⟩
     refine ⟨_,rfl,_,rfl,_,rfl,_,rfl,_,rfl,M,_,rfl,.inl (.of hM),_,_,_,rfl,by rw [me]; exact hpos,fun r G4 g4 r0 r1 => ?_⟩
     rw [me] at r1
     have hmm : ms.getD r.toNat 0 ∈ ms := Ct (by omega)
     have hmr := hms _ hmm
     refine ⟨M,_,_,_,rfl,rfl,.of (g4 _ _ hM),M3 r0 r1,A9 (by simp),fun pt hpt => ?_⟩
     generalize ms.getD r.toNat 0 = q at hmr
     have s3 : Same G4 (upd G4 pt (.tup [.int q])) := Same.new hpt
     refine ⟨af,pt,_,_,rfl,rfl,(g4.trans s3).seqT sqf,.of Ab,A9 (by simp; omega),fun p3 H3 s4 q3 => ?_⟩
     refine ⟨.ref p3,fs ++ [q],_,_,rfl,((gg.trans g4).trans s3).trans s4,TI.mk ?_,by simp [hfl],fun x hx => ?_⟩
     . rw [List.map_append]
       exact q3
     . rcases List.mem_append.mp hx with z | z
       . exact hfs x z
       . rw [List.mem_singleton] at z
         subst z
         exact hmr
   . rintro σ G ⟨v,fs,o4,o5,rfl,g,tv,hfl,hfs⟩
     exact ⟨_,rfl,k v fs G g tv⟩
abbrev B8 : Stmt := top 45
theorem S6 : FnScope ["_law_kind","_law_cells","_law_most","_law_family","_law_words","_law_cell","_law_more"] ["_law_kind","_law_cells","_law_most"] (Af B8) := ⟨rfl,rfl,rfl,by decide +kernel,rfl,by decide +kernel,by decide +kernel⟩
theorem B1 : (["_law_kind","_law_cells","_law_most","_law_family","_law_words","_law_cell","_law_more"] : List Str).Nodup := by decide +kernel
theorem Ti {f : Addr} {fd : FuncData} (F : Fun K "_law_shape_by" "_law_shape_by" B8 f fd) (T : Txt K mg C_Growth) (Ey : Has P w K mg base "_law_words_with" ["_law_words","_law_word","_law_family"] 2 (Ed K)) (Jw : Has P w K mg base "_law_word_by" ["_law_cell","_law_family","_law_letters"] 1 (G5 K)) (C4 : Has P w K mg base "_law_faces_by" ["_law_word","_law_family"] 1 (D0 K)) : FnOk P w K mg base CX0 3 f fd ["_law_kind","_law_cells","_law_most"] (Jn K) := by
 refine F.ok S6 (fun vs H Q E h => ?_) (fun cdv A outer s H vs Q E hr h => ?_)
 . obtain ⟨a,ns,kind,most,rfl,hS,hl,hm0,hm1,k⟩ := h
   rfl
 . obtain ⟨a,ns,kind,most,rfl,hS,hl,hm0,hm1,k⟩ := h
   have hu8 : (A.deeper (PyProof.Rows.envOfC "_law_shape_by" (Af B8) s.heap.objs.size f cdv)).units + 8 < cLine := by have := hr.units; omega
   refine ⟨_,(Ac (Aw (i := 3) B1 (by rfl) (by first | exact Or.inl rfl | exact Or.inr rfl) Ah)
    (Ac (A6 (Am Db (Ay Bm (pv 0) Ah) Ah (Au _)) (Ag (Aw (i := 3) B1 (by rfl) (by first | exact Or.inl rfl | exact Or.inr rfl) (Xq Nn Ah))) Aq)
    (Ac (A6 (Am Db (Ay Bm (pv 0) Ah) Ah (Au _)) (Ag (Aw (i := 3) B1 (by rfl) (by first | exact Or.inl rfl | exact Or.inr rfl) (Ay Es Ah (Ay Bm (Ay F2 (pv 0) Ah) Ah)))) Aq)
    (Ac (Aw (i := 4) B1 (by rfl) (by first | exact Or.inl rfl | exact Or.inr rfl) (Er Ad))
    (Ac (Cb PassesOwn.never rfl (Co (K := K) (pv 1)) (As (i := 5) B1 (by rfl) (by first | exact Or.inl rfl | exact Or.inr rfl)) (Ac (Aw (i := 6) B1 (by rfl) (by first | exact Or.inl rfl | exact Or.inr rfl) (Al Ey hr (by rfl) (Aa (pv 4) (Aa (Al Jw hr (by rfl) (Aa (pv 5) (Aa (pv 3) (Aa (Ay Es Ah (Ay Bm (Ay F2 (pv 0) Ah) Ah)) Ad)))) (Aa (pv 3) Ad)))))
    (Ag (A6 (Am A41 (Ao (Aj (K := K)) (by rfl) T.n_len PySem.boot_len (Aa (pv 6) Ad)) (pv 2) (Au _)) (Ag (Aw (i := 4) B1 (by rfl) (by first | exact Or.inl rfl | exact Or.inr rfl) (pv 6))) Aq))))
    (Ag (Ap (Cr (N' := ["_law_word","_law_family","_law_words"]) (cap := [none,some 3,some 4]) (by rfl) (by kernel_rfl) (Co (K := K) (pv 4)) (fun _ _ _ _ => (As (i := 0) A57 (by rfl) (by first | exact Or.inl rfl | exact Or.inr rfl))) (fun _ _ _ _ => Dr) (fun _ _ _ _ => (C5 (Dn (K := K)) (by rfl) T.n_tuple Cw (Aa (Cr (N' := ["_law_face","_law_words"]) (cap := [none,some 2]) (by rfl) (by kernel_rfl) (Co (K := K) (Al C4 hr (by rfl) (Aa (pv 0) (Aa (pv 1) Ad)))) (fun _ _ _ _ => (As (i := 0) A56 (by rfl) (by first | exact Or.inl rfl | exact Or.inr rfl))) (fun _ _ _ _ => Dr) (fun _ _ _ _ => (Hg (K := K) PySem.F.plainAttrs_list PySem.F.slot_list_index PySem.F.type_list_index (Af9 (K := K) hu8) (pv 1) (Aa (pv 0) Ad)))) Ad))))))))))),?_⟩
   refine Ar (fun σ' H' => σ' = [some (.int kind),some (.ref a),some (.int most),some (.int 0),none,none,none] /\ H = H') ?_ fun key0 => key0 _ _ ⟨rfl,rfl⟩
   rintro _ _ ⟨rfl,rfl⟩
   refine Ar (fun σ' H' => ∃ fam : Int,σ' = [some (.int kind),some (.ref a),some (.int most),some (.int fam),none,none,none] /\ H = H' /\ fam < 100) ?_ fun key1 => ?_
   rotate_left
   . refine ⟨_,rfl,_,_,rfl,rfl,(by show (0 : Int) < 3; decide),rfl,_,rfl,?_⟩
     refine ite2 (fun _ => ?_) (fun _ => ?_)
     . exact ⟨_,rfl,key1 _ _ ⟨-1,rfl,rfl,by decide⟩⟩
     . exact key1 _ _ ⟨0,rfl,rfl,by decide⟩
   rintro _ _ ⟨fam0,rfl,rfl,hf0⟩
   refine Ar (fun σ' H' => ∃ fam : Int,σ' = [some (.int kind),some (.ref a),some (.int most),some (.int fam),none,none,none] /\ H = H' /\ fam < 100) ?_ fun key2 => ?_
   rotate_left
   . refine ⟨_,rfl,_,_,rfl,rfl,(by show (0 : Int) < 3; decide),rfl,_,rfl,?_⟩
     refine ite2 (fun _ => ?_) (fun _ => ?_)
     . refine ⟨_,rfl,_,_,rfl,rfl,⟨by decide,by decide⟩,_,_,rfl,rfl,(by show (0 : Int) < 19; decide),_,_,rfl,rfl,key2 _ _ ⟨_,rfl,rfl,?_⟩⟩
       have : kind / 18 % 19 < 19 := Int.emod_lt_of_pos _ (by decide)
       omega
     . exact key2 _ _ ⟨fam0,rfl,rfl,hf0⟩
   rintro _ _ ⟨fam,rfl,rfl,hf⟩
   have l1 : 0 <= kind / 3 % 6 := Int.emod_nonneg _ (by decide)
   have l2 : kind / 3 % 6 < 6 := Int.emod_lt_of_pos _ (by decide)
   refine ⟨Nat.zero_le _,fun W0 hW0 => ?_⟩
   have s0 : Same H (upd H W0 (.lst [])) := Same.new hW0
   refine ⟨_,rfl,a,rfl,⟨_,s0.seq hS⟩,for_list (K := K) (a := a) (xs := ns.map V.int)
    (fun j σ H2 => ∃ (W : Addr) (wu : List V) (ws : List (List Int)) (o5 o6 : Option V),σ = [some (.int kind),some (.ref a),some (.int most),some (.int fam),some (.ref W),o5,o6] /\ Same H H2 /\ H W = none /\ H2 W = some (.lst wu) ∧
      Reps K H2 wu (ws.map tI) /\ Ord fam ws /\ (ws.length : Int) <= most)
    ⟨W0,[],[],none,none,rfl,s0,hW0,Ab,rfl,Ord.nil,by simpa using hm0⟩ (fun j σ H2 _ ⟨_,_,_,_,_,_,s2,_⟩ => s2.seq hS) ?_ ?_⟩
   . rintro j x σ H2 hx ⟨W,wu,ws,o5,o6,rfl,s2,hW,hW2,rW,hO,hwl⟩
     have hjn : j < ns.length := by have := (List.getElem?_eq_some_iff.mp hx).1; simpa using this
     have hxv : x = .int ns[j] := by
      rw [List.getElem?_map,List.getElem?_eq_getElem hjn] at hx
      simpa using hx.symm
     subst hxv
     refine ⟨_,rfl,_,rfl,_,rfl,_,rfl,_,_,rfl,rfl,⟨by decide,by decide⟩,_,_,rfl,rfl,(by show (0 : Int) < 6; decide),_,_,rfl,rfl,?_⟩
     refine ⟨_,_,_,rfl,by omega,by omega,by omega,fun v H3 w s3 tv hw => ?_⟩
     refine ⟨_,rfl,?_⟩
     refine ⟨W,wu,v,ws,w,fam,rfl,s3 _ _ hW2,Reps.same s3 rW,tv,hw,by omega,fun M mu H4 hM s4 hM4 rM => ?_⟩
     have s24 := s3.trans s4
     have hMH : H M = none := (s2.trans s3).free hM
     have mul : mu.length = (J5 ws w fam).length := by have := rM.length; simpa using this
     refine ⟨_,rfl,M,_,rfl,.inl (.of hM4),_,rfl,_,_,rfl,rfl,_,rfl,?_⟩
     refine ite2 (fun h1 => ?_) (fun h1 => ?_)
     . have h2 : (mu.length : Int) <= most := by simpa using h1
       exact ⟨_,rfl,M,mu,J5 ws w fam,_,_,rfl,s2.trans s24,hMH,hM4,rM,Sn hO hw,by omega⟩
     . exact ⟨W,wu,ws,_,_,rfl,s2.trans s24,hW,s24 _ _ hW2,Reps.same s24 rW,hO,hwl⟩
   . rintro σ H2 ⟨W,wu,ws,o5,o6,rfl,s2,hW,hW2,rW,hO,hwl⟩
     have wul : wu.length = ws.length := by have := rW.length; simpa using this
     refine ⟨_,rfl,W,rfl,⟨_,.of hW2⟩,fun D hD => ?_⟩
     have hDH : H D = none := s2.free hD
     refine Il (K := K) (a := W) (xs := wu) (fun i ys τ H1 => Same H2 H1 /\ H1 D = some (.lst ys) /\ Reps K H1 ys (((ws.take i).map fun w => (Ai w fam).map fun f => (idx ws f : Int)).map tI) /\ ∃ o,τ = [o,some (.int fam),some (.ref W)])
      ⟨Same.new hD,Ab,rfl,none,rfl⟩ (fun i ys τ H1 _ ⟨s1,_⟩ => .of (s1 _ _ hW2)) ?_ ?_
     . rintro i x ys τ H1 hx ⟨s1,hD1,r1,o,rfl⟩
       have hi : i < wu.length := (List.getElem?_eq_some_iff.mp hx).1
       have hil : i < ws.length := by omega
       have hix : (ws.map tI)[i]? = some (tI ws[i]) := by rw [List.getElem?_map,List.getElem?_eq_getElem hil]; rfl
       obtain ⟨x',hx',tx⟩ := rW.get hix
       rw [hx] at hx'
       cases hx'
       obtain ⟨hwi,hfi⟩ := hO.mem (List.getElem_mem hil)
       generalize hwe : ws[i] = w at tx hwi hfi
       refine ⟨_,rfl,_,rfl,x,w,fam,rfl,TI.same s1 tx,hwi,fun p fu H3 hp s3 hp3 r3 => ?_⟩
       have ful : fu.length = (Ai w fam).length := by have := r3.length; simpa using this
       have s13 := s1.trans s3
       refine ⟨p,rfl,⟨_,.of hp3⟩,fun D2 hD2 => ?_⟩
       refine Il (K := K) (a := p) (xs := fu) (fun m zs τ H4 => Same H3 H4 /\ H4 D2 = some (.lst zs) /\ zs = ((Ai w fam).take m).map (fun f => V.int (idx ws f : Int)) /\ ∃ o,τ = [o,some (.ref W)])
        ⟨Same.new hD2,Ab,rfl,none,rfl⟩ (fun m zs τ H4 _ ⟨s4,_⟩ => .of (s4 _ _ hp3)) ?_ ?_
       . rintro m y zs τ H4 hy ⟨s4,hD4,hzs,o,rfl⟩
         have hm : m < fu.length := (List.getElem?_eq_some_iff.mp hy).1
         have hmf : m < (Ai w fam).length := by omega
         have hmy : ((Ai w fam).map tI)[m]? = some (tI (Ai w fam)[m]) := by rw [List.getElem?_map,List.getElem?_eq_getElem hmf]; rfl
         obtain ⟨y',hy',ty⟩ := r3.get hmy
         rw [hy] at hy'
         cases hy'
         have hfm : (Ai w fam)[m] ∈ ws := hfi _ (List.getElem_mem _)
         have s14 := s13.trans s4
         have rw4 : Rep K H4 (.ref W) (.lst (ws.map tI)) := ⟨W,wu,rfl,.of (s14 _ _ hW2),Reps.same s14 rW⟩
         have hfl := (Fg hwi)
         have hzl : zs.length <= 4 := by
          rw [hzs,List.length_map,List.length_take]
          have := hfl.2
          have := hfl.1
          split at this <;> omega
         refine ⟨_,rfl,.inl ⟨rfl,_,.of (s14 _ _ hW2)⟩,_,rfl,ws.map tI,y,tI (Ai w fam)[m],idx ws (Ai w fam)[m],rfl,rw4,TI.same s4 ty,(by have := Kv ws; omega),k9 hfm,?_⟩
         refine ⟨hD4,Cq (by omega),s4.turn hD2,Ab,?_,_,rfl⟩
         rw [List.take_succ,List.getElem?_eq_getElem hmf,List.map_append,hzs]
         rfl
       . rintro zs τ H4 ⟨s4,hD4,hzs,_⟩
         rw [ful,List.take_length] at hzs
         have s14 := s13.trans s4
         refine ⟨D2,_,rfl,.inl ⟨.of hD4,fun T hT => ?_⟩⟩
         have s5 : Same H4 (upd H4 T (.tup zs)) := Same.new hT
         have hD5 := (s3.trans (s4.trans s5)) _ _ hD1
         have t5 : TI K (upd H4 T (.tup zs)) (.ref T) ((Ai w fam).map fun f => (idx ws f : Int)) := by
          refine TI.mk (.of ?_)
          rw [List.map_map,Ab,hzs]
          rfl
         have hyl : ys.length = i := by have := r1.length; simp at this; omega
         refine ⟨hD5,Cq (by omega),(s14.trans s5).turn hD,Ab,?_,_,rfl⟩
         have e2 : (ws.take (i + 1)).map (fun w => (Ai w fam).map fun f => (idx ws f : Int)) = (ws.take i).map (fun w => (Ai w fam).map fun f => (idx ws f : Int)) ++ [(Ai w fam).map fun f => (idx ws f : Int)] := by
          rw [List.take_succ,List.getElem?_eq_getElem hil,hwe,List.map_append]
          rfl
         rw [e2]
         exact Fx hD5 (Reps.same (s3.trans (s4.trans s5)) r1) t5
     . rintro ys τ H1 ⟨s1,hD1,r1,_⟩
       rw [wul,List.take_length] at r1
       exact k D ys H1 (Jq ws fam) hDH (s2.trans s1) hD1 r1 (S4 hO) (by unfold Jq; rw [List.length_map]; exact hwl)
abbrev N7 : Stmt := top 8
theorem Av8 : FnScope ["shape","thing","level"] ["shape","thing"] (Af N7) := ⟨rfl,rfl,rfl,by decide +kernel,rfl,by decide +kernel,by decide +kernel⟩
theorem Ay5 : (["shape","thing","level"] : List Str).Nodup := by decide +kernel
theorem Ax7 {f : Addr} {fd : FuncData} (F : Fun K "fits" "fits" N7 f fd) (T : Txt K mg C_Growth) (Ec : Has P w K mg base "level_of" ["piece"] 1 (Bx K)) (F9 : Has P w K mg base "faces_agree" ["shape","faces"] 1 (Ew K)) (Cs : Has P w K mg base "is_place_of_level" ["shape","thing","level"] 3 (Ck K)) : FnOk P w K mg base CX0 4 f fd ["shape","thing"] (Sx K) := by
 refine F.ok Av8 (fun vs H Q E h => ?_) (fun cdv A outer s H vs Q E hr h => ?_)
 . obtain ⟨a,th,e,xs,rfl,hL,hd,k⟩ := h
   rfl
 . obtain ⟨a,th,e,xs,rfl,hL,hd,k⟩ := h
   obtain ⟨a_FACE_COUNTS,c_FACE_COUNTS,q_FACE_COUNTS⟩ := T.x_FACE_COUNTS
   have hu8 : (A.deeper (PyProof.Rows.envOfC "fits" (Af N7) s.heap.objs.size f cdv)).units + 8 < cLine := by have := hr.units; omega
   refine ⟨_,(Ac (A6 (PW.pt (Kf (C0 (Ca (Ao (Wq (K := K)) (by rfl) T.n_isinstance A4 (Aa (pv 1) (Aa (F1 (v := .ty "tuple") rfl T.n_tuple Cw rfl) Ad))))) (Iz (Am (Eb (K := K) hu8) (Ao (Aj (K := K)) (by rfl) T.n_len PySem.boot_len (Aa (pv 1) Ad)) (Xr (v := .ref a_FACE_COUNTS) (by rfl) c_FACE_COUNTS rfl) rfl)))) (Ag (Ap Da)) Aq)
    (Ac (Aw (i := 2) Ay5 (by rfl) (by first | exact Or.inl rfl | exact Or.inr rfl) (Al Ec hr (by rfl) (Aa (pv 1) Ad)))
    (Ac (A6 (C0 (Ca (Ao (Rw (K := K) (by rfl)) (by rfl) T.n_all Ws (Aa (Cr (N' := ["face","shape","level"]) (cap := [none,some 0,some 2]) (by rfl) (by kernel_rfl) (L5 (K := K) (pv 1)) (fun _ _ _ _ => (As (i := 0) Ba0 (by rfl) (by first | exact Or.inl rfl | exact Or.inr rfl))) (fun _ _ _ _ => Dr) (fun _ _ _ _ => (Al Cs hr (by rfl) (Aa (pv 1) (Aa (pv 0) (Aa (Ay Kk (pv 2) Ah) Ad)))))) Ad)))) (Ag (Ap Da)) Aq)
    (Ag (Ap (A94 (Od Ls (pv 2) Ah (Au _)) (Rt (Al F9 hr (by rfl) (Aa (pv 0) (Aa (pv 1) Ad)))))))))),?_⟩
   refine ⟨_,rfl,th,"tuple",.one e,rfl,.inr (.inr (.inr (.inl rfl))),hd,_,rfl,?_⟩
   cases e with
   | nul => exact k H (Same.refl H)
   | d d =>
     have hd : Rep K H th d := hd
     have k : ∀ H',Same H H' -> Q (.bl (En xs d)) H' := k
     cases d with
     | non => exact k H (Same.refl H)
     | bl b => exact k H (Same.refl H)
     | int i => exact k H (Same.refl H)
     | str z => exact k H (Same.refl H)
     | lst es => exact k H (Same.refl H)
     | tup ds =>
       obtain ⟨pa,us,rfl,hq,r⟩ := id hd
       have ul : us.length = ds.length := r.length
       refine ifN (by simp [isT,isE,isD]) ?_
       refine ⟨_,rfl,pa,us,rfl,.inr hq,.int (us.length : Int),nums [0,2,3,4],rfl,.inr ⟨_,_,rfl,q_FACE_COUNTS H,Fa.mpr rfl⟩,(by rw [Kw]; decide),_,rfl,?_⟩
       rw [ul]
       have cnt : (!(nums [0,2,3,4]).any fun e => eqD e (.int (ds.length : Int))) = !cntB ds.length := by
        have : (nums [0,2,3,4]).any (fun e => eqD e (.int (ds.length : Int))) = cntB ds.length := by
         simp only [nums,List.map_cons,List.map_nil,List.any_cons,List.any_nil,eqD,cntB]
         rw [Bool.eq_iff_iff]
         simp only [Bool.or_eq_true,beq_iff_eq,Bool.or_false]
         omega
        rw [this]
       by_cases hc : cntB ds.length = true
       rotate_left
       . have hc' : cntB ds.length = false := by simpa using hc
         refine ifP (by rw [if_pos rfl,cnt,hc']; rfl) ?_
         have e2 : En xs (.tup ds) = false := by rw [Cn]; simp [hc']
         rw [e2] at k
         exact k H (Same.refl H)
       refine ifN (by rw [if_pos rfl,cnt,hc]; simp) ?_
       have hn4 : ds.length <= 4 := (Yt hc).1
       refine ⟨_,rfl,_,ds,rfl,.inr hd,?_⟩
       refine ⟨_,rfl,pa,rfl,⟨_,hq⟩,fun D hD => ?_⟩
       refine Pk (K := K) (a := pa) (xs := us) (fun i ys τ H1 => Same H H1 /\ H1 D = some (.lst ys) /\ ys = ((ds.take i).map fun e => V.bl (Be xs e (levI ds.length - 1))) /\ ∃ o,τ = [o,some (.ref a),some (.int (levI ds.length))])
        ⟨Same.new hD,Ab,rfl,none,rfl⟩ (fun i ys τ H1 _ ⟨s1,_⟩ => s1.seqT hq) ?_ ?_
       . rintro i x ys τ H1 hx ⟨s1,hD1,hys,o,rfl⟩
         have hi : i < us.length := (List.getElem?_eq_some_iff.mp hx).1
         obtain ⟨e,he,re⟩ := r.getV hx
         refine ⟨_,rfl,_,rfl,_,rfl,_,_,rfl,rfl,a,x,e,_,xs,rfl,Rep.same s1 hL,Rep.same s1 re,?_⟩
         refine ⟨hD1,Cq (by rw [hys,List.length_map,List.length_take]; omega),s1.turn hD,Ab,?_,_,rfl⟩
         rw [List.take_succ,he,List.map_append,hys]
         rfl
       . rintro ys τ H1 ⟨s1,hD1,hys,_⟩
         rw [ul,List.take_length] at hys
         have hys2 : ys = (ds.map fun e => Be xs e (levI ds.length - 1)).map V.bl := by rw [hys,List.map_map]; rfl
         rw [hys2] at hD1
         refine ⟨D,_,rfl,.of hD1,_,rfl,?_⟩
         have eall : (ds.map fun e => Be xs e (levI ds.length - 1)).all id = ds.all fun e => Be xs e (levI ds.length - 1) := by rw [List.all_map]; rfl
         by_cases ha : (ds.all fun e => Be xs e (levI ds.length - 1)) = true
         rotate_left
         . have ha' : (ds.all fun e => Be xs e (levI ds.length - 1)) = false := by simpa using ha
           refine ifP (by rw [eall,ha']; rfl) ?_
           have e2 : En xs (.tup ds) = false := by rw [Cn]; rw [ha',hc]; rfl
           rw [e2] at k
           exact k H1 s1
         refine ifN (by rw [eall,ha]; simp) ?_
         have e2 : En xs (.tup ds) = (decide (levI ds.length < 2) || Ek xs (ds.map toI)) := by rw [Cn]; rw [ha,hc]; rfl
         rw [e2] at k
         refine ⟨_,rfl,_,_,rfl,rfl,_,rfl,?_⟩
         refine ite2 (fun h1 => ?_) (fun h1 => ?_)
         . have h2 : (decide (levI ds.length < 2)) = true := h1
           rw [h2] at k
           exact k H1 s1
         . have h2 : (decide (levI ds.length < 2)) = false := by simpa using h1
           rw [h2] at k
           have hint := Uw ha
           have tv : TI K H1 (.ref pa) (ds.map toI) := by
            have := Rep.same s1 hd
            rw [hint] at this
            exact this
           refine ⟨_,rfl,_,rfl,a,_,xs,ds.map toI,rfl,Rep.same s1 hL,tv,by simpa using hn4,?_,k H1 s1⟩
           intro f hf
           rw [List.all_eq_true] at ha
           have hm : L2.D.int f ∈ ds := by
            rw [hint]
            exact List.mem_map.mpr ⟨f,hf,rfl⟩
           have := ha _ hm
           simp only [Be,Bool.and_eq_true,decide_eq_true_eq] at this
           obtain ⟨⟨f0,f1⟩,f2⟩ := this
           refine ⟨f0,f1,?_⟩
           rw [List.length_map]
           rw [Bu,Bu] at f2
           have h3 : ¬ levI ds.length < 2 := by simpa using h2
           rw [Bu] at h3
           omega
abbrev Bs : Stmt := Oy (top 32) 0
theorem Na : FnScope ["self","prime"] ["self","prime"] (Af Bs) := ⟨rfl,rfl,rfl,by decide +kernel,rfl,by decide +kernel,by decide +kernel⟩
theorem Gm {f : Addr} {fd : FuncData} {ds0 : List Value} (F : FunD K "__init__" "Growth.__init__" Bs f fd ds0) (T : Txt K mg C_Growth) (Ii : Has P w K mg base "is_prime" ["thing"] 3 (Nr K)) : FnOk P w K mg base CX0 4 f fd ["self","prime"] (Kb K C_Growth) := by
 refine F.ok Na (fun vs H Q E h => ?_) (fun cdv A outer s H vs Q E hr h => ?_)
 . obtain ⟨g,dx,p,rfl,hg,hP,h98,k⟩ := h
   rfl
 . obtain ⟨g,dx,p,rfl,hg,hP,h98,k⟩ := h
   refine ⟨_,(Ac (A6 (C0 (Ca (Al Ii hr (by rfl) (Aa (pv 1) Ad)))) (Ag Nh) Aq)
    (Ac (Os (K := K) (pv 0) (pv 1))
    (Ac (Os (K := K) (pv 0) (Er Ad))
    (Ac (Os (K := K) (pv 0) (Er Ad))
    (Ac (Os (K := K) (pv 0) (Er Ad))
    (Ag (Os (K := K) (pv 0) Ki))))))),?_⟩
   refine ⟨_,rfl,p,rfl,hP,h98,fun H0 s0 => ⟨_,rfl,?_⟩⟩
   refine ifN (by decide) ?_
   refine ⟨_,rfl,_,rfl,g,C_Growth,dx,[],rfl,s0 _ _ hg,T.cl_Growth,T.na_Growth_prime,by decide,?_⟩
   have sx0 : SameX g H (upd H0 g (.ins C_Growth dx (putF "prime" (.int p) []))) := SameX.upd (SameX.of s0)
   have eg0 : upd H0 g (.ins C_Growth dx (putF "prime" (.int p) [])) g = some (.ins C_Growth dx (putF "prime" (.int p) [])) := Ab
   generalize upd H0 g (.ins C_Growth dx (putF "prime" (.int p) [])) = H1 at sx0 eg0
   refine ⟨A9 (by simp),fun pc hpc => ?_⟩
   have npc : pc ≠ g := fun z => by rw [z,eg0] at hpc; cases hpc
   obtain ⟨sx1,eg1,epc,pe0,fpc,_⟩ := init_step (o := .lst []) (putF "pieces" (.ref pc) (putF "prime" (.int p) [])) sx0 eg0 hpc
   refine ⟨_,rfl,g,C_Growth,dx,_,rfl,(by rw [Ae npc.symm]; exact eg0),T.cl_Growth,T.na_Growth_pieces,Nat.lt_of_le_of_lt (lenF (Nat.le_refl 0)) (by decide),?_⟩
   generalize upd (upd H1 pc (.lst [])) g (.ins C_Growth dx (putF "pieces" (.ref pc) (putF "prime" (.int p) []))) = H2 at sx1 eg1 epc
   refine ⟨A9 (by simp),fun sh hsh => ?_⟩
   have nsh : sh ≠ g := fun z => by rw [z,eg1] at hsh; cases hsh
   obtain ⟨sx2,eg2,esh,pe1,fsh,_⟩ := init_step (o := .lst []) (putF "sheets" (.ref sh) (putF "pieces" (.ref pc) (putF "prime" (.int p) []))) sx1 eg1 hsh
   refine ⟨_,rfl,g,C_Growth,dx,_,rfl,(by rw [Ae nsh.symm]; exact eg1),T.cl_Growth,T.na_Growth_sheets,Nat.lt_of_le_of_lt (lenF (lenF (Nat.le_refl 0))) (by decide),?_⟩
   have dpcsh : pc ≠ sh := fun z => by rw [← z,epc] at hsh; cases hsh
   replace epc := pe1 _ _ npc epc
   generalize upd (upd H2 sh (.lst [])) g (.ins C_Growth dx (putF "sheets" (.ref sh) (putF "pieces" (.ref pc) (putF "prime" (.int p) [])))) = H3 at sx2 eg2 esh epc
   refine ⟨A9 (by simp),fun ed hed => ?_⟩
   have ned : ed ≠ g := fun z => by rw [z,eg2] at hed; cases hed
   obtain ⟨sx3,eg3,eed,pe2,fed,_⟩ := init_step (o := .lst []) (putF "edges" (.ref ed) (putF "sheets" (.ref sh) (putF "pieces" (.ref pc) (putF "prime" (.int p) [])))) sx2 eg2 hed
   refine ⟨_,rfl,g,C_Growth,dx,_,rfl,(by rw [Ae ned.symm]; exact eg2),T.cl_Growth,T.na_Growth_edges,Nat.lt_of_le_of_lt (lenF (lenF (lenF (Nat.le_refl 0)))) (by decide),?_⟩
   have dpced : pc ≠ ed := fun z => by rw [← z,epc] at hed; cases hed
   have dshed : sh ≠ ed := fun z => by rw [← z,esh] at hed; cases hed
   replace epc := pe2 _ _ npc epc
   replace esh := pe2 _ _ nsh esh
   generalize upd (upd H3 ed (.lst [])) g (.ins C_Growth dx (putF "edges" (.ref ed) (putF "sheets" (.ref sh) (putF "pieces" (.ref pc) (putF "prime" (.int p) []))))) = H4 at sx3 eg3 eed epc esh
   refine fun en hen => ?_
   have nen : en ≠ g := fun z => by rw [z,eg3] at hen; cases hen
   obtain ⟨sx4,eg4,een,pe3,fen,_⟩ := init_step (o := .dK []) (putF "enders" (.ref en) (putF "edges" (.ref ed) (putF "sheets" (.ref sh) (putF "pieces" (.ref pc) (putF "prime" (.int p) []))))) sx3 eg3 hen
   refine ⟨_,rfl,g,C_Growth,dx,_,rfl,(by rw [Ae nen.symm]; exact eg3),T.cl_Growth,T.na_Growth_enders,Nat.lt_of_le_of_lt (lenF (lenF (lenF (lenF (Nat.le_refl 0))))) (by decide),?_⟩
   have dpcen : pc ≠ en := fun z => by rw [← z,epc] at hen; cases hen
   have dshen : sh ≠ en := fun z => by rw [← z,esh] at hen; cases hen
   have deden : ed ≠ en := fun z => by rw [← z,eed] at hen; cases hen
   replace epc := pe3 _ _ npc epc
   replace esh := pe3 _ _ nsh esh
   replace eed := pe3 _ _ ned eed
   generalize upd (upd H4 en (.dK [])) g (.ins C_Growth dx (putF "enders" (.ref en) (putF "edges" (.ref ed) (putF "sheets" (.ref sh) (putF "pieces" (.ref pc) (putF "prime" (.int p) [])))))) = H5 at sx4 eg4 een epc esh eed
   refine k pc sh ed en H5 fpc fsh fed fen sx4 ⟨⟨dx,_,eg4,by refine ⟨?_,?_,?_,?_,?_,?_,?_,?_,?_,?_,?_,?_⟩ <;> ((repeat (first | rw [F5,if_pos rfl] | rw [F5,if_neg (by decide +kernel)])) <;> first | rfl | assumption)⟩,⟨[],epc,rfl⟩,⟨[],eed,rfl,fun i d m e => by simp at e⟩,⟨[],esh,rfl,fun i d m e => by simp at e⟩,een,⟨dpcsh,dpced,dshed⟩,J3.nil p,hP,h98⟩
abbrev E9 : Stmt := top 46
theorem Z9 : FnScope ["_law_kind","_law_cells","_law_most","_law_pieces","_law_cell","_law_piece"] ["_law_kind","_law_cells","_law_most"] (Af E9) := ⟨rfl,rfl,rfl,by decide +kernel,rfl,by decide +kernel,by decide +kernel⟩
theorem Ie : (["_law_kind","_law_cells","_law_most","_law_pieces","_law_cell","_law_piece"] : List Str).Nodup := by decide +kernel
theorem d3 {f : Addr} {fd : FuncData} (F : Fun K "_law_built" "_law_built" E9 f fd) (T : Txt K mg C_Growth) (Hi : Has P w K mg base "_law_shape_by" ["_law_kind","_law_cells","_law_most"] 3 (Jn K)) (Nk : Has P w K mg base "_law_fits" ["_law_pieces","_law_thing"] 2 (Nt K)) (T5 : Has P w K mg base "_law_next" ["_law_pieces","_law_cell"] 3 (Nw K)) : FnOk P w K mg base CX0 4 f fd ["_law_kind","_law_cells","_law_most"] (Nu K) := by
 refine F.ok Z9 (fun vs H Q E h => ?_) (fun cdv A outer s H vs Q E hr h => ?_)
 . obtain ⟨cl,ns,kind,most,rfl,hS,hl,hm0,hm1,k⟩ := h
   rfl
 . obtain ⟨cl,ns,kind,most,rfl,hS,hl,hm0,hm1,k⟩ := h
   refine ⟨_,(Ac (Aw (i := 3) Ie (by rfl) (by first | exact Or.inl rfl | exact Or.inr rfl) (Er Ad))
    (Ac (A6 (Am Db (Ay Bm (pv 0) Ah) Ah (Au _)) (Ac (Cb PassesOwn.never rfl (Co (K := K) (pv 1)) (As (i := 4) Ie (by rfl) (by first | exact Or.inl rfl | exact Or.inr rfl)) (Ag (A6 (Am Ls (Ao (Aj (K := K)) (by rfl) T.n_len PySem.boot_len (Aa (pv 3) Ad)) (pv 2) (Au _)) (Ac (Aw (i := 5) Ie (by rfl) (by first | exact Or.inl rfl | exact Or.inr rfl) (Al T5 hr (by rfl) (Aa (pv 3) (Aa (Ay Es (Ay Bm (pv 4) Ah) (Ay op_mulX Ah (Ao (Aj (K := K)) (by rfl) T.n_len PySem.boot_len (Aa (pv 3) Ad)))) Ad))))
    (Ag (A6 (Ca (Al Nk hr (by rfl) (Aa (pv 3) (Aa (pv 5) Ad)))) (Ag (Cc (Hg (K := K) PySem.F.plainAttrs_list PySem.F.slot_list_append PySem.F.type_list_append Ce (pv 3) (Aa (pv 5) Ad)))) Aq))) Aq)))
    (Ag (Ap (pv 3)))) Aq)
    (Ac (Cb PassesOwn.never rfl (Co (K := K) (Al Hi hr (by rfl) (Aa (Ay F2 (pv 0) Ah) (Aa (pv 1) (Aa (pv 2) Ad))))) (As (i := 5) Ie (by rfl) (by first | exact Or.inl rfl | exact Or.inr rfl)) (Ag (A6 (PW.pt (Kg (Am Ls (Ao (Aj (K := K)) (by rfl) T.n_len PySem.boot_len (Aa (pv 3) Ad)) (pv 2) (Au _)) (Fw (Ca (Al Nk hr (by rfl) (Aa (pv 3) (Aa (pv 5) Ad))))))) (Ag (Cc (Hg (K := K) PySem.F.plainAttrs_list PySem.F.slot_list_append PySem.F.type_list_append Ce (pv 3) (Aa (pv 5) Ad)))) Aq)))
    (Ag (Ap (pv 3)))))),?_⟩
   refine ⟨Nat.zero_le _,fun D hD => ?_⟩
   have s0 : Same H (upd H D (.lst [])) := Same.new hD
   have hD0 : (upd H D (.lst [])) D = some (.lst []) := Ab
   generalize upd H D (.lst []) = H0 at s0 hD0
   refine Ar (fun σ' H' => σ' = [some (.int kind),some (.ref cl),some (.int most),some (.ref D),none,none] /\ H0 = H') ?_ fun key0 => key0 _ _ ⟨rfl,rfl⟩
   rintro _ _ ⟨rfl,rfl⟩
   refine Ar (fun σ' H' => σ' = [some (.int kind),some (.ref cl),some (.int most),some (.ref D),none,none] /\ H0 = H') ?_ fun key => ?_
   rotate_left
   . refine ⟨_,rfl,_,_,rfl,rfl,(by show (0 : Int) < 2; decide),rfl,_,rfl,?_⟩
     refine ite2 (fun _ => ?_) (fun _ => key _ _ ⟨rfl,rfl⟩)
     refine ⟨_,rfl,cl,rfl,⟨_,s0.seq hS⟩,for_list (K := K) (a := cl) (xs := ns.map V.int) (fun j σ G => ∃ (du : List V) (xs : List (List Int)) (o4 o5 : Option V),σ = [some (.int kind),some (.ref cl),some (.int most),some (.ref D),o4,o5] /\ Same H G /\ G D = some (.lst du) /\ Reps K G du (xs.map tI) /\ Dl xs /\ (xs.length : Int) <= most)
      ⟨[],[],none,none,rfl,s0,hD0,rfl,U4,by simpa using hm0⟩ (fun j σ G _ ⟨_,_,_,_,_,g,_⟩ => g.seq hS) ?_ ?_⟩
     . rintro j x σ G hx ⟨du,xs,o4,o5,rfl,g,hDG,rD,hC,hxl⟩
       have hjn : j < ns.length := by have := (List.getElem?_eq_some_iff.mp hx).1; simpa using this
       have hxv : x = .int ns[j] := by
        rw [List.getElem?_map,List.getElem?_eq_getElem hjn] at hx
        simpa using hx.symm
       subst hxv
       have dul : du.length = xs.length := by have := rD.length; simpa using this
       refine ⟨_,rfl,D,_,rfl,.inl (.of hDG),_,rfl,_,_,rfl,rfl,_,rfl,?_⟩
       refine ite2 (fun h1 => ?_) (fun h1 => ⟨du,xs,_,_,rfl,g,hDG,rD,hC,by omega⟩)
       have h1 : (xs.length : Int) < most := by rw [dul] at h1; simpa using h1
       refine ⟨_,rfl,_,rfl,_,_,rfl,rfl,(by show (0 : Int) < 1000003; decide),_,rfl,D,_,rfl,.inl (.of hDG),_,_,rfl,rfl,Mx (by decide) (by decide),_,_,rfl,rfl,D,xs,_,rfl,⟨D,du,rfl,.of hDG,rD⟩,Ee hC,by omega,fun w p G1 g1 tw => ?_⟩
       have hDG1 := g1 _ _ hDG
       have rD1 := Reps.same g1 rD
       refine ⟨_,rfl,_,rfl,D,w,.d (tI p),xs,rfl,⟨D,du,rfl,.of hDG1,rD1⟩,Ee hC,by omega,tw,fun G2 g2 => ?_⟩
       have gg := g.trans (g1.trans g2)
       have hDG2 := g2 _ _ hDG1
       have rD2 := Reps.same g2 rD1
       refine ⟨_,rfl,?_⟩
       refine ite2 (fun h2 => ?_) (fun h2 => ⟨du,xs,_,_,rfl,gg,hDG2,rD2,hC,by omega⟩)
       refine ⟨_,rfl,.inl ⟨rfl,_,.of hDG2⟩,_,rfl,D,_,_,rfl,rfl,hDG2,Cq (by omega),?_⟩
       exact ⟨_,xs ++ [p],_,_,rfl,gg.turn hD,Ab,Fx hDG2 rD2 (TI.same g2 tw),Lj hC (Yh (Ee hC) h2),by rw [List.length_append]; simp; omega⟩
     . rintro σ G ⟨du,xs,o4,o5,rfl,g,hDG,rD,hC,hxl⟩
       exact ⟨_,rfl,k D du xs G hD g hDG rD hC (by omega)⟩
   rintro _ _ ⟨rfl,rfl⟩
   refine ⟨_,rfl,_,_,rfl,rfl,⟨by decide,by decide⟩,_,rfl,_,rfl,cl,ns,_,most,rfl,s0.seq hS,hl,hm0,by omega,fun W wu G0 zs hW g0 hW0 rW hsh hzl => ?_⟩
   have g00 := s0.trans g0
   have wul : wu.length = zs.length := by have := rW.length; simpa using this
   refine ⟨W,rfl,⟨_,.of hW0⟩,for_list (K := K) (a := W) (xs := wu) (fun j σ G => ∃ (du : List V) (xs : List (List Int)) (o5 : Option V),σ = [some (.int kind),some (.ref cl),some (.int most),some (.ref D),none,o5] /\ SameX D G0 G /\ G D = some (.lst du) /\ Reps K G du (xs.map tI) /\ Dl xs /\ (xs.length : Int) <= most)
    ⟨[],[],none,rfl,SameX.refl _ _,g0 _ _ hD0,rfl,U4,by simpa using hm0⟩ (fun j σ G _ ⟨_,_,_,_,g,_⟩ => .of (g _ _ (Ak hD0 hW).symm hW0)) ?_ ?_⟩
   . rintro j x σ G hx ⟨du,xs,o5,rfl,g,hDG,rD,hC,hxl⟩
     have hj : j < wu.length := (List.getElem?_eq_some_iff.mp hx).1
     have hjz : j < zs.length := by omega
     have hjx : (zs.map tI)[j]? = some (tI zs[j]) := by rw [List.getElem?_map,List.getElem?_eq_getElem hjz]; rfl
     obtain ⟨x',hx',tx⟩ := rW.get hjx
     rw [hx] at hx'
     cases hx'
     have txG : TI K G x zs[j] := TI.t (g.t (g0 _ _ hD0)) tx
     generalize zs[j] = p at txG
     have dul : du.length = xs.length := by have := rD.length; simpa using this
     refine ⟨_,rfl,D,_,rfl,.inl (.of hDG),_,rfl,_,_,rfl,rfl,_,rfl,?_⟩
     refine ite2 (fun h1 => ?_) (fun h1 => ?_)
     rotate_left
     . refine ifN (by simp) ?_
       exact ⟨du,xs,_,rfl,g,hDG,rD,hC,by omega⟩
     have h1 : (xs.length : Int) < most := by rw [dul] at h1; simpa using h1
     refine ⟨_,rfl,_,rfl,D,x,.d (tI p),xs,rfl,⟨D,du,rfl,.of hDG,rD⟩,Ee hC,by omega,txG,fun G2 g2 => ?_⟩
     have hDG2 := g2 _ _ hDG
     have rD2 := Reps.same g2 rD
     have gx := g.trans (SameX.of g2)
     refine ⟨_,rfl,?_⟩
     refine ite2 (fun h2 => ?_) (fun h2 => ⟨du,xs,_,rfl,gx,hDG2,rD2,hC,by omega⟩)
     refine ⟨_,rfl,.inl ⟨rfl,_,.of hDG2⟩,_,rfl,D,_,_,rfl,rfl,hDG2,Cq (by omega),?_⟩
     exact ⟨_,xs ++ [p],_,rfl,gx.upd,Ab,Fx hDG2 rD2 (TI.same g2 txG),Lj hC (Yh (Ee hC) h2),by rw [List.length_append]; simp; omega⟩
   . rintro σ G ⟨du,xs,o5,rfl,g,hDG,rD,hC,hxl⟩
     exact ⟨_,rfl,k D du xs G hD (g.same g00 hD) hDG rD hC (by omega)⟩
abbrev By : Stmt := top 50
theorem Qe : FnScope ["_law_growth","_law_pieces","_law_prime_here","_law_ends","_law_births","_law_place","_law_paper","_law_low"] ["_law_growth","_law_pieces","_law_prime_here"] (Af By) := ⟨rfl,rfl,rfl,by decide +kernel,rfl,by decide +kernel,by decide +kernel⟩
theorem Cm : (["_law_growth","_law_pieces","_law_prime_here","_law_ends","_law_births","_law_place","_law_paper","_law_low"] : List Str).Nodup := by decide +kernel
theorem Qp {f : Addr} {fd : FuncData} (F : Fun K "_law_pairs_due" "_law_pairs_due" By f fd) (T : Txt K mg C_Growth) (Ei : HasM P w K mg base C_Growth "paper" ["self","place"] 3 (Nx K C_Growth)) (Hj : Has P w K mg base "_law_is_paper" ["_law_pieces","_law_paper","_law_place","_law_prime_here"] 2 (Jp K)) (T6 : Has P w K mg base "_law_edge" ["_law_pieces","_law_paper","_law_prime_here"] 1 (Sy K)) : FnOk P w K mg base CX0 4 f fd ["_law_growth","_law_pieces","_law_prime_here"] (Xe K C_Growth) := by
 refine F.ok Qe (fun vs H Q E h => ?_) (fun cdv A outer s H vs Q E hr h => ?_)
 . obtain ⟨g,pc,sh,ed,en,a,p,xs,es,ss,bs,rfl,x,shx,hL,k⟩ := h
   rfl
 . obtain ⟨g,pc,sh,ed,en,a,p,xs,es,ss,bs,rfl,x,shx,hL,k⟩ := h
   have hu8 : (A.deeper (PyProof.Rows.envOfC "_law_pairs_due" (Af By) s.heap.objs.size f cdv)).units + 8 < cLine := by have := hr.units; omega
   refine ⟨_,(Ac (Aw (i := 3) Cm (by rfl) (by first | exact Or.inl rfl | exact Or.inr rfl) Ki)
    (Ac (Aw (i := 4) Cm (by rfl) (by first | exact Or.inl rfl | exact Or.inr rfl) (Er Ad))
    (Ac (Cb PassesOwn.never rfl (B3 (by rfl) T.n_range (Aa (Ao (Aj (K := K)) (by rfl) T.n_len PySem.boot_len (Aa (pv 1) Ad)) Ad)) (As (i := 5) Cm (by rfl) (by first | exact Or.inl rfl | exact Or.inr rfl)) (Ac (Aw (i := 6) Cm (by rfl) (by first | exact Or.inl rfl | exact Or.inr rfl) (Tf (pv 0) T.cl_Growth Ei hr (Aa (pv 5) Ad)))
    (Ac (A6 (C0 (Ca (Al Hj hr (by rfl) (Aa (pv 1) (Aa (pv 6) (Aa (pv 5) (Aa (pv 2) Ad))))))) (Ag (Ap Mu)) Aq)
    (Ac (Aw (i := 7) Cm (by rfl) (by first | exact Or.inl rfl | exact Or.inr rfl) (Aw9 (K := K) (by rfl) (by rfl) T.n_max (Aa (Al T6 hr (by rfl) (Aa (pv 1) (Aa (pv 6) (Aa (pv 2) Ad)))) Ad) (Xq Nn Ah)))
    (Ac (Cc (Ab7 (pv 6)))
    (Ag (A6 (Am Db (pv 7) (Xq Nn Ah) (Au _)) (Ag (Cc (Hg (K := K) PySem.F.plainAttrs_list PySem.F.slot_list_append PySem.F.type_list_append Ce (pv 4) (Aa (pv 5) Ad)))) (Ag (A6 (PW.pt (Kf (Am (Ac1 (u1 hu8)) (pv 7) (pv 3) rfl) (Iz (Am (Eb (K := K) hu8) (pv 7) (pv 4) rfl)))) (Ag (Ap Mu)) (Ag (Ta (u1 hu8) (pv 3) (pv 7) (pv 5) (by rfl))))))))))))
    (Ag (Ap (Cr (N' := ["_law_place","_law_ends"]) (cap := [none,some 3]) (by rfl) (by kernel_rfl) (Co (K := K) (pv 4)) (fun _ _ _ _ => (As (i := 0) A53 (by rfl) (by first | exact Or.inl rfl | exact Or.inr rfl))) (fun _ _ _ _ => Dr) (fun _ _ _ _ => (Cd (Aa (pv 0) (Aa (Y9 (u1 hu8) (pv 1) (pv 0) ⟨by rfl,by rfl,by rfl,by rfl⟩) Ad)))))))))),?_⟩
   obtain ⟨_,us,z,hqa,ra⟩ := id hL
   cases z
   have usl : us.length = xs.length := by have := ra.length; simpa using this
   have gw := x.gw
   have n40 := gw.n40
   have hp2 := x.pr.1.two
   have hp98 := x.pr.2
   have hel := gw.le
   have hsl := gw.ls
   refine Ar (fun σ' H' => ∃ T : Addr,σ' = [some (.ref g),some (.ref a),some (.int p),some (.ref T),none,none,none,none] /\ H T = none /\ Same H H' /\ H' T = some (.dK (cK []))) ?_ fun key => ?_
   rotate_left
   . exact fun T hT => key _ _ ⟨T,rfl,hT,Same.new hT,Ab⟩
   rintro _ H1 ⟨T,rfl,hT,s1,eT⟩
   refine Ar (fun σ' H' => ∃ B : Addr,σ' = [some (.ref g),some (.ref a),some (.int p),some (.ref T),some (.ref B),none,none,none] /\ H1 B = none /\ Same H1 H' /\ H' B = some (.lst [])) ?_ fun key => ?_
   rotate_left
   . exact ⟨Nat.zero_le _,fun B hB => key _ _ ⟨B,rfl,hB,Same.new hB,Ab⟩⟩
   rintro _ H2 ⟨B,rfl,hB1,s2,eB⟩
   have hB : H B = none := s1.free hB1
   have nTB : T ≠ B := Ak eT hB1
   have s12 := s1.trans s2
   refine Ar (t := tFor _ _ _) (fun σ' G => ∃ (ends : Ms) (o5 o6 o7 : Option V),σ' = [some (.ref g),some (.ref a),some (.int p),some (.ref T),some (.ref B),o5,o6,o7] /\ Same H G /\ G T = some (.dK (cK ends)) /\ G B = some (.lst ((D6 es xs.length).map fun (j : Nat) => V.int (j : Int))) /\ ∀ b,A0 ends b = A0 bs b) ?_ fun key => ?_
   rotate_left
   . refine ⟨_,rfl,a,us,rfl,.inl (s12.seq hqa),_,rfl,by omega,by omega,?_⟩
     refine B4 (lo := 0) (n := ((us.length : Nat) : Int).toNat) (fun i σ' G => ∃ (ends : Ms) (o5 o6 o7 : Option V),σ' = [some (.ref g),some (.ref a),some (.int p),some (.ref T),some (.ref B),o5,o6,o7] /\ Same H G /\ G T = some (.dK (cK ends)) /\ G B = some (.lst ((D6 es i).map fun (j : Nat) => V.int (j : Int))) /\ ends.length <= i /\ ∀ b e,A0 ends b = some e ↔ ∃ (j : Nat) (m : Ms),j < i /\ e = (j : Int) /\ es[j]? = some m /\ Top m b)
      ⟨[],none,none,none,rfl,s12,s2 _ _ eT,eB,Nat.zero_le _,fun b e => ⟨fun z => by simp [A0] at z,fun ⟨j,_,z,_⟩ => absurd z (Nat.not_lt_zero _)⟩⟩ ?_ ?_
     . rintro i σ' G hi ⟨ends,o5,o6,o7,rfl,g1,hTG,hBG,hel',hends⟩
       have hil : i < xs.length := by omega
       rw [show (0 : Int) + (i : Int) = (i : Int) by omega]
       have hs : ss[i]? = some (ss.getD i []) := Pw (by omega)
       have he : es[i]? = some (es.getD i []) := Pw (by omega)
       obtain ⟨okS,kS⟩ := gw.sok i _ hs
       obtain ⟨okE,kE⟩ := gw.eok i _ he
       have hown := shx.own i _ hs
       have hlev := shx.lev i _ hs
       have hedge := A02 gw shx hp2 hs he
       generalize ss.getD i [] = sm at hs okS kS hown hlev hedge
       obtain ⟨em,hem⟩ : ∃ em,em = es.getD i [] := ⟨_,rfl⟩
       have bsu := Sb es i
       rw [← hem] at he okE kE hedge bsu
       have sl : sm.length <= 41 := D1 okS.nd fun y hy => by have := kS y hy; omega
       have xG := x.same g1
       obtain ⟨dx,fs,hg,l1,l2,l3,l4,l5,lm⟩ := xG.ob
       refine Ar (fun σ2 G2 => ∃ (D : Addr),σ2 = [some (.ref g),some (.ref a),some (.int p),some (.ref T),some (.ref B),some (.int (i : Int)),some (.ref D),o7] /\ Same G G2 /\ G D = none /\ G2 D = some (.dK (cK sm))) ?_ fun key2 => ?_
       rotate_left
       . exact ⟨_,rfl,g,dx,fs,rfl,hg,lm.2.2.2.2.1,_,rfl,g,pc,sh,ed,en,p,xs,es,ss,bs,sm,i,rfl,xG,hs,fun D G1 hD h1 eD => key2 _ _ ⟨D,rfl,h1,hD,eD⟩⟩
       rintro _ G1 ⟨D,rfl,h1,hD,eD⟩
       have hL1 := Rep.same (g1.trans h1) hL
       refine Ar (fun σ2 G2 => σ2 = [some (.ref g),some (.ref a),some (.int p),some (.ref T),some (.ref B),some (.int (i : Int)),some (.ref D),o7] /\ Same G1 G2) ?_ fun key2 => ?_
       rotate_left
       . refine ⟨_,rfl,_,rfl,_,rfl,_,rfl,a,D,xs,sm,p,i,rfl,hL1,eD,okS,fun y hy => ⟨(kS y hy).1,(kS y hy).2,hlev y hy⟩,hil,hown,by omega,fun G2 h2 => ⟨_,rfl,?_⟩⟩
         refine ifN (by decide) ?_
         exact key2 _ _ ⟨rfl,h2⟩
       rintro _ G1' ⟨rfl,h1'⟩
       refine Ar (fun σ2 G2 => ∃ (m : Int),σ2 = [some (.ref g),some (.ref a),some (.int p),some (.ref T),some (.ref B),some (.int (i : Int)),some (.ref D),some (.int m)] /\ Same G G2 /\ G2 D = some (.dK (cK sm)) /\ ((em = [] /\ m = -1) \/ Top em m)) ?_ fun key2 => ?_
       rotate_left
       . refine ⟨_,rfl,_,rfl,_,rfl,a,D,xs,sm,p,rfl,Rep.same h1' hL1,x.le4.2,h1' _ _ eD,okS,fun y hy => ⟨(kS y hy).1,by have := (kS y hy).2; omega⟩,by omega,by omega,hp98,fun l ks G3 nl h3 el hks => ?_⟩
         refine ⟨_,rfl,l,ks,-1,rfl,.of el,rfl,fun m hm => ?_⟩
         have hke : ∀ y,y ∈ ks ↔ y ∈ Az em := fun y => (hks y).trans (hedge y)
         refine key2 _ _ ⟨m,rfl,(h1.trans h1').trans h3,h3 _ _ (h1' _ _ eD),?_⟩
         rcases hm with ⟨z,zm⟩ | ⟨z1,z2⟩
         . left
           refine ⟨?_,zm⟩
           cases em with
           | nil => rfl
           | cons q r =>
             have := (hke q.1).mpr (List.mem_cons_self ..)
             rw [z] at this
             cases this
         . exact .inr ⟨(hke m).mp z1,fun y hy => z2 y ((hke y).mpr hy)⟩
       rintro _ G2 ⟨m,rfl,h2,eD,hlow⟩
       have nTD : T ≠ D := Ak hTG hD
       have nBD : B ≠ D := Ak hBG hD
       refine ⟨_,rfl,D,cK sm,rfl,eD,?_⟩
       have h3 : Same G (upd G2 D (.dK [])) := h2.turn hD
       have g3 := g1.trans h3
       have hT3 := h3 _ _ hTG
       have hB3 := h3 _ _ hBG
       generalize upd G2 D (.dK []) = G3 at h3 g3 hT3 hB3 ⊢
       have bl : (D6 es i).length <= i := Ps es i
       refine ⟨_,rfl,_,rfl,rfl,_,rfl,?_⟩
       rcases hlow with ⟨hz,rfl⟩ | tb
       . refine ifP (by simp) ?_
         rw [if_pos hz] at bsu
         refine ⟨_,rfl,.inl ⟨rfl,_,.of hB3⟩,_,rfl,B,_,_,rfl,rfl,hB3,Cq (by rw [List.length_map]; omega),?_⟩
         refine ⟨ends,_,_,_,rfl,g3.turn hB,by rw [Ae nTB]; exact hT3,?_,by omega,fun b e => ?_⟩
         . rw [Ab,bsu,List.map_append]
           rfl
         . rw [hends b e]
           constructor
           . rintro ⟨j,m,j1,j2⟩
             exact ⟨j,m,by omega,j2⟩
           . rintro ⟨j,m,j1,j2,j3,j4⟩
             refine ⟨j,m,?_,j2,j3,j4⟩
             by_cases z : j = i
             . subst z
               rw [he,hz] at j3
               cases j3
               exact (Top.no j4).elim
             . omega
       . obtain ⟨m0,m1,_⟩ := kE m tb.mem
         have hne : ¬ em = [] := fun z => by rw [z] at tb; exact Top.no tb
         rw [if_neg hne] at bsu
         refine ifN (by simp; omega) ?_
         have hlk : A0 ends m = none := by
          cases hl : A0 ends m with
          | none => rfl
          | some e =>
            obtain ⟨j,mj,j1,j2,j3,j4⟩ := (hends m e).mp hl
            have q1 := (gw.bls m (j : Int)).mpr ⟨j,mj,rfl,j3,j4⟩
            have q2 := (gw.bls m (i : Int)).mpr ⟨i,em,rfl,he,tb⟩
            rw [q1] at q2
            have := Option.some.inj q2
            omega
         refine ⟨_,rfl,_,rfl,T,cK ends,.inl m,rfl,hT3,rfl,_,rfl,?_⟩
         refine ifN (by rw [K4,hlk]; decide) ?_
         have hborn := A80 gw shx x.pr.1 he tb
         have hmem : m.toNat ∈ D6 es i := Wr.mpr ⟨by omega,A73 hborn⟩
         refine ⟨_,rfl,_,rfl,.int m,(D6 es i).map (fun (j : Nat) => L2.D.int (j : Int)),rfl,.inl ⟨B,_,rfl,.of hB3,U8 _⟩,Nat.le_trans (Nat.succ_le_succ (V6 _)) (by decide),_,rfl,?_⟩
         have hany : (((D6 es i).map (fun (j : Nat) => L2.D.int (j : Int))).any fun e => eqD e (.int m)) = true := by
          rw [List.any_map]
          refine List.any_eq_true.mpr ⟨m.toNat,hmem,?_⟩
          show (((m.toNat : Nat) : Int) == m) = true
          simp
          omega
         refine ifN (by rw [hany]; decide) ?_
         refine ⟨_,rfl,_,rfl,_,rfl,T,_,rfl,Uf hT3 (by omega),?_⟩
         refine ⟨_,_,_,_,rfl,g3.turn hT,Ab,?_,?_,fun b e => ?_⟩
         . rw [Ae nTB.symm,bsu]
           exact hB3
         . have := X8 ends m (i : Int)
           omega
         . rw [Kp]
           by_cases hb : b = m
           . rw [if_pos hb]
             constructor
             . intro z
               cases z
               exact ⟨i,em,by omega,rfl,he,by rw [hb]; exact tb⟩
             . rintro ⟨j,mj,j1,j2,j3,j4⟩
               have q1 := (gw.bls b (j : Int)).mpr ⟨j,mj,rfl,j3,j4⟩
               have q2 := (gw.bls b (i : Int)).mpr ⟨i,em,rfl,he,by rw [hb]; exact tb⟩
               rw [q1] at q2
               rw [j2]
               exact q2.symm
           . rw [if_neg hb,hends b e]
             constructor
             . rintro ⟨j,m',j1,j2⟩
               exact ⟨j,m',by omega,j2⟩
             . rintro ⟨j,m',j1,j2,j3,j4⟩
               refine ⟨j,m',?_,j2,j3,j4⟩
               by_cases z : j = i
               . subst z
                 rw [he] at j3
                 cases j3
                 exact absurd (Top.one j4 tb) hb
               . omega
     . rintro σ' G ⟨ends,o5,o6,o7,rfl,g1,hTG,hBG,hel',hends⟩
       rw [Int.toNat_natCast,usl] at hBG hends
       refine key _ _ ⟨ends,o5,o6,o7,rfl,g1,hTG,hBG,fun b => ?_⟩
       cases hl : A0 bs b with
       | some e =>
         obtain ⟨j,m,j2,j3,j4⟩ := (gw.bls b e).mp hl
         exact (hends b e).mpr ⟨j,m,by rw [← hel]; exact (List.getElem?_eq_some_iff.mp j3).1,j2,j3,j4⟩
       | none =>
         cases hl2 : A0 ends b with
         | none => rfl
         | some e =>
           obtain ⟨j,m,_,j2,j3,j4⟩ := (hends b e).mp hl2
           have := (gw.bls b e).mpr ⟨j,m,j2,j3,j4⟩
           rw [hl] at this
           cases this
   rintro _ G ⟨ends,o5,o6,o7,rfl,g1,hTG,hBG,hends⟩
   have bl : (D6 es xs.length).length <= xs.length := Ps es _
   have hpe : ∀ j,Fb ends j = Fb bs j := fun j => by unfold Fb; rw [Ai5 (hends (j : Int))]
   refine ⟨_,rfl,B,rfl,⟨_,.of hBG⟩,fun D hD => ?_⟩
   refine Il (K := K) (a := B) (xs := (D6 es xs.length).map fun (j : Nat) => V.int (j : Int)) (fun i ys τ G1 => Same G G1 /\ G1 D = some (.lst ys) /\ Reps K G1 ys (((D6 es xs.length).take i).map (Fb bs)) /\ ∃ o,τ = [o,some (.ref T)])
    ⟨Same.new hD,Ab,rfl,none,rfl⟩ (fun i ys τ G1 _ ⟨h1,_⟩ => .of (h1 _ _ hBG)) ?_ ?_
   . rintro i y ys τ G1 hy ⟨h1,hDG,ry,o,rfl⟩
     have hi : i < (D6 es xs.length).length := by have := (List.getElem?_eq_some_iff.mp hy).1; simpa using this
     obtain ⟨j,hj⟩ : ∃ j,(D6 es xs.length)[i]? = some j := ⟨_,List.getElem?_eq_getElem hi⟩
     obtain rfl : y = .int (j : Int) := by rw [List.getElem?_map,hj] at hy; exact (Option.some.inj hy).symm
     have yl : ys.length <= i := by have := ry.length; rw [List.length_map,List.length_take] at this; omega
     have hT1 := h1 _ _ hTG
     refine ⟨_,rfl,_,rfl,T,rfl,.inl ⟨_,.inl hT1⟩,_,rfl,(A0 ends (j : Int)).map V.int,.inl ⟨cK ends,.inl (j : Int),.inl hT1,rfl,(K4 _ _).symm⟩,?_⟩
     rw [Ah5]
     refine ⟨A9 (by simp),fun t ht => ?_⟩
     have st := Same.new (o := .tup [.int (j : Int),endV ends (j : Int)]) ht
     have et : upd G1 t (.tup [.int (j : Int),endV ends (j : Int)]) t = some (.tup [.int (j : Int),endV ends (j : Int)]) := Ab
     generalize upd G1 t (.tup [.int (j : Int),endV ends (j : Int)]) = G2 at st et ⊢
     have hDG2 := st _ _ hDG
     refine ⟨hDG2,Cq (by omega),(h1.trans st).turn hD,Ab,?_,_,rfl⟩
     rw [List.take_succ,hj,List.map_append]
     have rj : Rep K G2 (.ref t) (Fb bs j) := by
      rw [← hpe]
      exact ⟨t,_,rfl,.of et,⟨_,_,rfl,rfl,⟨_,_,rfl,Aa3 _ _,rfl⟩⟩⟩
     refine Reps.t (K8.lst hDG2) ?_ (Reps.append (Reps.same st ry) ⟨_,_,rfl,rj,rfl⟩)
     have := Lr bs ((D6 es xs.length).take i ++ [j])
     rw [List.map_append] at this
     exact this
   . rintro ys τ G1 ⟨h1,hDG,ry,_⟩
     rw [List.length_map,List.take_length] at ry
     refine k D ys G1 (g1.free hD) (g1.trans h1) hDG ?_
     show Reps K G1 ys (Gk es bs es.length)
     unfold Gk
     rw [hel]
     exact ry
abbrev B0 : Stmt := Oy (top 32) 1
theorem Qg : FnScope ["self","thing","place","faces","papers","birth"] ["self","thing"] (Af B0) := ⟨rfl,rfl,rfl,by decide +kernel,rfl,by decide +kernel,by decide +kernel⟩
theorem Dm : (["self","thing","place","faces","papers","birth"] : List Str).Nodup := by decide +kernel
theorem Qr {f : Addr} {fd : FuncData} (F : Fun K "grow" "Growth.grow" B0 f fd) (T : Txt K mg C_Growth) (Hh : Has P w K mg base "check_size" ["pieces"] 1 (Sv K)) (Jv : Has P w K mg base "add_faces" ["chain","faces","number"] 2 (Gy K)) (Dh : HasM P w K mg base C_Growth "settled" ["self","sheet","edge"] 3 (G7 K C_Growth)) (Ah3 : Has P w K mg base "fits" ["shape","thing"] 4 (Sx K)) (Ej : Has P w K mg base "counted" ["chain","prime"] 1 (Hy K)) : FnOk P w K mg base CX0 5 f fd ["self","thing"] (Nz K C_Growth) := by
 refine F.ok Qg (fun vs H Q E h => ?_) (fun cdv A outer s H vs Q E hr h => ?_)
 . obtain ⟨g,pc,sh,ed,en,v,p,xs,q,es,ss,bs,rfl,x,hv,hfd,hlt,shx,k3⟩ := h
   rfl
 . obtain ⟨g,pc,sh,ed,en,v,p,xs,q,es,ss,bs,rfl,x,hv,hfd,hlt,shx,k3⟩ := h
   have hu8 : (A.deeper (PyProof.Rows.envOfC "Growth.grow" (Af B0) s.heap.objs.size f cdv)).units + 8 < cLine := by have := hr.units; omega
   refine ⟨_,(Ac (Aw (i := 2) Dm (by rfl) (by first | exact Or.inl rfl | exact Or.inr rfl) (Ao (Aj (K := K)) (by rfl) T.n_len PySem.boot_len (Aa (Bv (K := K) (pv 0)) Ad)))
    (Ac (A6 (C0 (Ca (Al Ah3 hr (by rfl) (Aa (Bv (K := K) (pv 0)) (Aa (pv 1) Ad))))) (Ag Nh) Aq)
    (Ac (Cc (Al Hh hr (by rfl) (Aa (Ay (Vt (K := K)) (Bv (K := K) (pv 0)) (Er (Aa (pv 1) Ad))) Ad)))
    (Ac (Aw (i := 3) Dm (by rfl) (by first | exact Or.inl rfl | exact Or.inr rfl) Ki)
    (Ac (Cc (Al Jv hr (by rfl) (Aa (pv 3) (Aa (pv 1) (Aa Ah Ad)))))
    (Ac (Aw (i := 4) Dm (by rfl) (by first | exact Or.inl rfl | exact Or.inr rfl) (Tf (pv 0) T.cl_Growth Dh hr (Aa (Ax2 (Ao1 (pv 2) Ah Aw2) (by rfl) (by rfl) (by intro z; cases z) (Nat.le_of_ble_eq_true rfl)) (Aa (Al Ej hr (by rfl) (Aa (pv 3) (Aa (Bv (K := K) (pv 0)) Ad))) Ad))))
    (Ac (Cc (Hg (K := K) PySem.F.plainAttrs_list PySem.F.slot_list_append PySem.F.type_list_append Ce (Bv (K := K) (pv 0)) (Aa (pv 1) Ad)))
    (Ac (Cc (Hg (K := K) PySem.F.plainAttrs_list PySem.F.slot_list_append PySem.F.type_list_append Ce (Bv (K := K) (pv 0)) (Aa (Bc (Bb (K := K)) (pv 4) Ah (fun _ _ => rfl)) Ad)))
    (Ac (Cc (Hg (K := K) PySem.F.plainAttrs_list PySem.F.slot_list_append PySem.F.type_list_append Ce (Bv (K := K) (pv 0)) (Aa (Bc (Bb (K := K)) (pv 4) Ah (fun _ _ => rfl)) Ad)))
    (Ac (A6 (Am Db (Ao Pr (by rfl) T.n_len PySem.boot_len (Aa (Bc (Bb (K := K)) (pv 4) Ah (fun _ _ => rfl)) Ad)) Ah (Au _)) (Ag (Ap Mu)) Aq)
    (Ac (Aw (i := 5) Dm (by rfl) (by first | exact Or.inl rfl | exact Or.inr rfl) (Ao (Pq (by rfl)) (by rfl) T.n_max Fl (Aa (Bc (Bb (K := K)) (pv 4) Ah (fun _ _ => rfl)) Ad)))
    (Ac (Ta (u1 hu8) (Bv (K := K) (pv 0)) (pv 5) (pv 2) (by rfl))
    (Ag (Ap (pv 5))))))))))))))),?_⟩
   obtain ⟨dx,fs,hg,l1,l2,l3,l4,l5,lm⟩ := x.ob
   obtain ⟨us,hpc,r⟩ := x.pcs
   have hul : us.length = xs.length := by have := r.length; simpa using this
   have hp2 := x.pr.1.two
   have hp98 := x.pr.2
   have n40 := x.gw.n40
   have hcnt := Ee x.gw.shp
   refine ⟨_,rfl,g,C_Growth,dx,fs,_,rfl,hg,T.cl_Growth,T.na_Growth_pieces,l2,pc,us,rfl,.inl (.of hpc),?_⟩
   rw [hul]
   refine ⟨_,rfl,g,C_Growth,dx,fs,_,rfl,hg,T.cl_Growth,T.na_Growth_pieces,l2,_,rfl,pc,v,.d (tI q),xs,rfl,⟨pc,us,rfl,.of hpc,r⟩,hv,fun H1 s1 => ⟨_,rfl,?_⟩⟩
   have x1 := x.same s1
   have hg1 := s1 _ _ hg
   have hpc1 := s1 _ _ hpc
   have hf : A00 xs (.d (tI q)) = true := hfd
   refine ifN (by rw [hf]; decide) ?_
   have hFit := Yh hcnt hfd
   refine ⟨_,rfl,g,C_Growth,dx,fs,_,rfl,hg1,T.cl_Growth,T.na_Growth_pieces,l2,_,rfl,A9 (by simp),fun m1 hm1 => ⟨pc,m1,us,[v],rfl,rfl,?_,.of Ab,A9 (by simp; omega),fun m2 hm2 => ?_⟩⟩
   . exact .of (Same.new hm1 _ _ hpc1)
   have s3 := (s1.trans (Same.new (o := .lst [v]) hm1)).trans (Same.new (o := .lst (us ++ [v])) hm2)
   refine ⟨m2,us ++ [v],rfl,.of Ab,by simp; omega,?_⟩
   generalize upd (upd H1 m1 (.lst [v])) m2 (.lst (us ++ [v])) = H3 at s3
   have x3 := x.same s3
   refine fun D hD => ?_
   have s4 : Same H3 (upd H3 D (.dK (cK []))) := Same.new hD
   refine ⟨_,rfl,_,rfl,D,v,[],q,1,rfl,Ab,Rep.same (s3.trans s4) hv,?_,fun H5 st hD5 => ?_⟩
   . have := hFit.cnt
     simp; omega
   have s5 : Same H H5 := s3.trans (w9 hD st)
   have x5 := x.same s5
   have hg5 := s5 _ _ hg
   have kad : ∀ y ∈ Az (addF [] q 1),y ∈ q := fun y hy => Vu (Nat.le_refl _) hy
   have nad : nd (addF [] q 1) := Tv (ms := []) (by simp [nd]) q 1 q.length
   have lev : ∀ y ∈ q,0 <= y /\ y < (xs.length : Int) /\ (xs.getD y.toNat []).length - 1 + 1 = q.length - 1 := fun y hy => by
    obtain ⟨w,hw,hlv⟩ := hFit.bel y hy
    have h0 := hFit.low y hy
    have hl := (List.getElem?_eq_some_iff.mp hw).1
    refine ⟨h0,by omega,?_⟩
    rw [List.getD_eq_getElem?_getD,hw]
    exact hlv
   have lad : (addF [] q 1).length <= 41 := D1 nad fun y hy => by
    have := lev y (kad y hy)
    omega
   refine ⟨_,rfl,g,dx,fs,rfl,hg5,lm.2.1,fun P hP => ⟨_,rfl,Ab,[(.inl (xs.length : Int),.int 1)],rfl,by simp,?_⟩⟩
   obtain ⟨H6,e6⟩ : ∃ Z,Z = upd (upd H5 P (.dK [])) P (.dK (Fe [] [((.inl (xs.length : Int) : Key),V.int 1)])) := ⟨_,rfl⟩
   have hP6 : H6 P = some (.dK (cK [((xs.length : Int),1)])) := by rw [e6]; exact Ab
   have s6' : Same H5 H6 := by rw [e6]; exact (Same.new (o := .dK []) hP).turn hP
   rw [← e6]
   clear e6
   have s6 := s5.trans s6'
   refine ⟨_,rfl,_,rfl,g,C_Growth,dx,fs,_,rfl,s6 _ _ hg,T.cl_Growth,T.na_Growth_prime,l1,D,addF [] q 1,p,rfl,s6' _ _ hD5,by omega,nad,by omega,fun F H7 hF s7' hF7 => ?_⟩
   have s7 := s6.trans s7'
   have x7 := x.same s7
   have en5 := x5.ens
   have en6 := s6 _ _ x.ens
   refine ⟨g,pc,sh,ed,en,P,F,p,xs,es,ss,bs,[((xs.length : Int),1)],modI p (addF [] q 1),q.length - 1,q,rfl,x7,s7' _ _ hP6,hF7,(Ak en5 hP).symm,(Ak en6 hF).symm,⟨?_,?_⟩,Zd nad (by omega),?_,?_,shx,Nf.first (fun f hf => (lev f hf).1),rfl,?_⟩
   . simp [nd]
   . intro y hy
     simp at hy
     subst hy
     exact ⟨by simp,hp2⟩
   . intro y hy
     simp [Az] at hy
     omega
   . exact fun y hy => lev y (kad y (Aq3 hy))
   intro t s' e' ms' me' H8 s8' ht hs' he' ns' ne' ok1 ok2 kk1 kk2 hno nok
   have s8 := s7.trans s8'
   have x8 := x.same s8
   have hg8 := s8 _ _ hg
   have hpc8 := s8 _ _ hpc
   have r8 := Reps.same s8 r
   have hv8 : TI K H8 v q := Rep.same s8 hv
   obtain ⟨ds,hed,dl,dg⟩ := x8.eds.ex
   obtain ⟨cs,hsh,cl,cg⟩ := x8.shs.ex
   have dsn := Pm dl dg he' ne'
   have csn := Pm cl cg hs' ns'
   have dl40 : ds.length <= 40 := by rw [dl,x.gw.le]; exact n40
   have cl40 : cs.length <= 40 := by rw [cl,x.gw.ls]; exact n40
   obtain ⟨n1,n2,n3⟩ := x.ne
   have en8 := x8.ens
   have gp : g ≠ pc := F3 hg8 hpc8 (fun z => by cases z)
   have gs : g ≠ sh := F3 hg8 hsh (fun z => by cases z)
   have ge : g ≠ ed := F3 hg8 hed (fun z => by cases z)
   have tp : t ≠ pc := F3 ht hpc8 (fun z => by cases z)
   have ts : t ≠ sh := F3 ht hsh (fun z => by cases z)
   have te : t ≠ ed := F3 ht hed (fun z => by cases z)
   have ep : e' ≠ pc := F3 he' hpc8 (fun z => by cases z)
   have es' : e' ≠ sh := F3 he' hsh (fun z => by cases z)
   have ee : e' ≠ ed := F3 he' hed (fun z => by cases z)
   have np : en ≠ pc := F3 en8 hpc8 (fun z => by cases z)
   have nsh : en ≠ sh := F3 en8 hsh (fun z => by cases z)
   have ned : en ≠ ed := F3 en8 hed (fun z => by cases z)
   have rs : Reps K H8 (us ++ [v]) ((xs ++ [q]).map tI) := by
    rw [List.map_append]
    exact Reps.append r8 ⟨_,_,rfl,hv8,rfl⟩
   refine ⟨_,rfl,g,C_Growth,dx,fs,_,rfl,hg8,T.cl_Growth,T.na_Growth_pieces,l2,.inl ⟨rfl,us,.of hpc8⟩,_,rfl,pc,us,v,rfl,rfl,hpc8,Cq (by omega),?_⟩
   refine ⟨_,rfl,g,C_Growth,dx,fs,_,rfl,(by rw [Ae gp]; exact hg8),T.cl_Growth,T.na_Growth_sheets,l3,.inl ⟨rfl,_,.of (by rw [Ae n1.symm]; exact hsh)⟩,_,rfl,t,_,_,_,rfl,rfl,.of (by rw [Ae tp]; exact ht),at0 _ _,sh,_,_,rfl,rfl,(by rw [Ae n1.symm]; exact hsh),Cq (by rw [List.length_map]; omega),?_⟩
   refine ⟨_,rfl,g,C_Growth,dx,fs,_,rfl,(by rw [Ae gs,Ae gp]; exact hg8),T.cl_Growth,T.na_Growth_edges,l4,.inl ⟨rfl,_,.of (by rw [Ae n3.symm,Ae n2.symm]; exact hed)⟩,_,rfl,t,_,_,_,rfl,rfl,.of (by rw [Ae ts,Ae tp]; exact ht),at1 _ _ _,ed,_,_,rfl,rfl,(by rw [Ae n3.symm,Ae n2.symm]; exact hed),Cq (by rw [List.length_map]; omega),?_⟩
   rw [Ze,Ze]
   have put := fun bs' gw => x8.put (us := us ++ [v]) (ds := ds ++ [e']) (cs := cs ++ [s']) (xs' := xs ++ [q]) (es' := es ++ [me']) (ss' := ss ++ [ms']) (bs' := bs') rs dsn.1 dsn.2 csn.1 csn.2 gw
   have gwn := fun bs' hb => x.gw.grow (bs' := bs') hFit hlt ⟨ok1,kk1,ok2,kk2,hno⟩ hb
   have frn := fun bs' => FrG.four (pc := pc) (sh := sh) (ed := ed) (en := en) (o1 := .lst (us ++ [v])) (o2 := .lst ((cs ++ [s']).map V.ref)) (o3 := .lst ((ds ++ [e']).map V.ref)) (o4 := .dK (cK bs')) s8
   obtain ⟨H9,e9⟩ : ∃ Z,Z = upd (upd (upd H8 pc (.lst (us ++ [v]))) sh (.lst ((cs ++ [s']).map V.ref))) ed (.lst ((ds ++ [e']).map V.ref)) := ⟨_,rfl⟩
   rw [← e9] at put frn ⊢
   have hg9 : H9 g = some (.ins C_Growth dx fs) := by rw [e9,Ae ge,Ae gs,Ae gp]; exact hg8
   have ht9 : H9 t = some (.tup [.ref s',.ref e']) := by rw [e9,Ae te,Ae ts,Ae tp]; exact ht
   have he9 : H9 e' = some (.dK (cK me')) := by rw [e9,Ae ee,Ae es',Ae ep]; exact he'
   have en9 : H9 en = some (.dK (cK bs)) := by rw [e9,Ae ned,Ae nsh,Ae np]; exact en8
   clear e9
   refine Ar (fun σ' H' => σ' = [some (.ref g),some v,some (.int (xs.length : Int)),some (.ref D),some (.ref t),none] /\ H9 = H') ?_ fun key0 => key0 _ _ ⟨rfl,rfl⟩
   rintro _ _ ⟨rfl,rfl⟩
   refine ⟨_,rfl,t,_,_,_,rfl,rfl,.of ht9,at1 _ _ _,e',cK me',rfl,he9,rfl,_,rfl,?_⟩
   rw [Ji]
   by_cases hz : me' = []
   . subst hz
     refine ifP (by simp) ?_
     have w := put bs (gwn bs (.inl ⟨rfl,rfl⟩))
     have f := frn bs
     rw [As6 en9] at w f
     exact k3 _ _ _ _ _ f w (shx.grow x.gw nok) (.inl ⟨rfl,rfl⟩)
   refine ifN (by simpa using hz) ?_
   refine ⟨_,rfl,t,_,_,_,rfl,rfl,.of ht9,at1 _ _ _,e',Az me',cK me',rfl,he9,Yb me',Ya hz,fun b hb1 hb2 => ?_⟩
   have tb : Top me' b := ⟨hb1,hb2⟩
   refine ⟨_,rfl,_,rfl,g,C_Growth,dx,fs,_,rfl,hg9,T.cl_Growth,T.na_Growth_enders,l5,_,rfl,en,_,rfl,Uf en9 (Nat.le_trans x.gw.blen (by decide)),?_⟩
   refine ⟨_,rfl,?_⟩
   obtain ⟨b1,b2,b3⟩ := kk2 b hb1
   exact k3 _ _ _ _ _ (frn _) (put _ (gwn _ (.inr ⟨b,tb,rfl⟩))) (shx.grow x.gw nok) (.inr ⟨b,tb,rfl⟩)
abbrev Qh : Stmt := top 53
theorem A26 : FnScope ["_law_script","_law_kind","_law_prime_here","_law_pieces","_law_growth","_law_answers","_law_due","_law_found"] ["_law_script"] (Af Qh) := ⟨rfl,rfl,rfl,by decide +kernel,rfl,by decide +kernel,by decide +kernel⟩
theorem Mv : (["_law_script","_law_kind","_law_prime_here","_law_pieces","_law_growth","_law_answers","_law_due","_law_found"] : List Str).Nodup := by decide +kernel
theorem A44 {f : Addr} {fd : FuncData} (F : Fun K "law" "law" Qh f fd) (T : Txt K mg C_Growth) (Oz : Has P w K mg base "_law_prime" ["_law_cell"] 1 (Jo K)) (O0 : Has P w K mg base "_law_built" ["_law_kind","_law_cells","_law_most"] 4 (Nu K)) (hcd_Growth : A16 P w K mg base C_Growth ["self","prime"] [.int 2] 4 (Kb K C_Growth)) (hc_Growth : HasC P w K mg base C_Growth ["self","prime"] 4 (Kb K C_Growth)) (D3 : Has P w K mg base "_law_pairs_due" ["_law_growth","_law_pieces","_law_prime_here"] 4 (Xe K C_Growth)) (C6 : HasM P w K mg base C_Growth "pairs" ["self"] 1 (Ny K C_Growth)) (D4 : Has P w K mg base "_law_are_pairs" ["_law_found","_law_due"] 2 (Gx K)) (Gb : Has P w K mg base "_law_cell_at" ["_law_script","_law_k"] 1 (G6 K)) (Ex : HasM P w K mg base C_Growth "grow" ["self","thing"] 5 (Nz K C_Growth)) (Di : Has P w K mg base "_law_answers_right" ["_law_answers","_law_due"] 2 (Nq K)) : FnOk P w K mg base CX0 6 f fd ["_law_script"] (Y2 K) := by
 refine F.ok A26 (fun vs H Q E h => ?_) (fun cdv A outer s H vs Q E hr h => ?_)
 . obtain ⟨a,ns,rfl,hS,hl,k⟩ := h
   rfl
 . obtain ⟨a,ns,rfl,hS,hl,k⟩ := h
   have hu8 : (A.deeper (PyProof.Rows.envOfC "law" (Af Qh) s.heap.objs.size f cdv)).units + 8 < cLine := by have := hr.units; omega
   refine ⟨_,(Ac (Aw (i := 1) Mv (by rfl) (by first | exact Or.inl rfl | exact Or.inr rfl) (Ay Bm (Al Gb hr (by rfl) (Aa (pv 0) (Aa Ah Ad))) Ah))
    (Ac (Aw (i := 2) Mv (by rfl) (by first | exact Or.inl rfl | exact Or.inr rfl) (Al Oz hr (by rfl) (Aa (Al Gb hr (by rfl) (Aa (pv 0) (Aa Ah Ad))) Ad)))
    (Ac (Aw (i := 3) Mv (by rfl) (by first | exact Or.inl rfl | exact Or.inr rfl) (Al O0 hr (by rfl) (Aa (Ay F2 (pv 1) Ah) (Aa (Ep (Aq8 (K := K)) (pv 0) (Fy Ah) (Fy Ah)) (Aa (Bc (Bb (K := K)) (Cd (Aa Ah (Aa Ah (Aa Ah (Aa Ah Ad))))) (Ay Bm (pv 1) Ah) (fun _ _ => rfl)) Ad)))))
    (Ac (Aw (i := 4) Mv (by rfl) (by first | exact Or.inl rfl | exact Or.inr rfl) (Ao6 hc_Growth hr (by rfl) T.m_Growth (Aa (pv 2) Ad)))
    (Ac (A6 (PW.pt (Kg (Am Db (pv 2) Ah (Au _)) (Fw (Am Db (Ay Bm (pv 1) Ah) Ah (Au _))))) (Ag (Aw (i := 4) Mv (by rfl) (by first | exact Or.inl rfl | exact Or.inr rfl) (Ab5 hcd_Growth hr (by rfl) T.m_Growth))) Aq)
    (Ac (S9 (N' := ["_law_piece","_law_growth"]) (cap := [none,some 4]) (i := 5) Mv (by rfl) (by first | exact Or.inl rfl | exact Or.inr rfl) (by rfl) (by kernel_rfl) (Co (K := K) (pv 3)) (fun _ _ _ _ => (As (i := 0) A52 (by rfl) (by first | exact Or.inl rfl | exact Or.inr rfl))) (fun _ _ _ _ => Dr) (fun _ _ _ _ => (Tf (pv 1) T.cl_Growth Ex hr (Aa (pv 0) Ad))))
    (Ac (Aw (i := 6) Mv (by rfl) (by first | exact Or.inl rfl | exact Or.inr rfl) (Al D3 hr (by rfl) (Aa (pv 4) (Aa (pv 3) (Aa (pv 2) Ad)))))
    (Ac (A6 (PW.pt (Kf (Am A42 (pv 6) Mu (Au _)) (Iz (C0 (Ca (Al Di hr (by rfl) (Aa (pv 5) (Aa (pv 6) Ad)))))))) (Ag (Ap Da)) Aq)
    (Ac (Aw (i := 7) Mv (by rfl) (by first | exact Or.inl rfl | exact Or.inr rfl) (Vd (pv 4) T.cl_Growth C6 hr))
    (Ac (A6 (C0 (Ca (Al D4 hr (by rfl) (Aa (pv 7) (Aa (pv 6) Ad))))) (Ag (Ap Da)) Aq)
    (Ac (Cc (Ay8 (K := K) PySem.F.plainAttrs_list PySem.F.slot_list_clear PySem.F.type_list_clear Aq2 (pv 7)))
    (Ac (A6 (Am (Af8 (K := K) hu8) (Al D3 hr (by rfl) (Aa (pv 4) (Aa (pv 3) (Aa (pv 2) Ad)))) (pv 6) (Au _)) (Ag (Ap Da)) Aq)
    (Ag (Ap (Al D4 hr (by rfl) (Aa (Vd (pv 4) T.cl_Growth C6 hr) (Aa (pv 6) Ad))))))))))))))))),?_⟩
   have p4 : (0 : Int) < 4 := by decide
   refine Ar (fun σ' H' => ∃ kind : Int,σ' = [some (.ref a),some (.int kind),none,none,none,none,none,none] /\ H = H') ?_ fun key => ?_
   rotate_left
   . exact ⟨_,rfl,a,ns,0,rfl,hS,by decide,hl,_,_,rfl,rfl,(by show (0 : Int) < 1000003; decide),key _ _ ⟨_,rfl,rfl⟩⟩
   rintro _ _ ⟨kind,rfl,rfl⟩
   refine Ar (fun σ' H' => ∃ p : Int,σ' = [some (.ref a),some (.int kind),some (.int p),none,none,none,none,none] /\ Same H H' /\ Dz p /\ p < 98) ?_ fun key => ?_
   rotate_left
   . exact ⟨_,rfl,a,ns,1,rfl,hS,by decide,hl,_,rfl,fun p H' s' hp h98 => key _ _ ⟨p,rfl,s',hp,h98⟩⟩
   rintro _ H1 ⟨p,rfl,s1,hpr,h98⟩
   have hS1 := s1.seq hS
   have k0 := Int.emod_nonneg kind (show (4 : Int) ≠ 0 by decide)
   have k1 := Int.emod_lt_of_pos kind p4
   refine Ar (fun σ' H' => ∃ (Pc : Addr) (us : List V) (xs : List (List Int)),σ' = [some (.ref a),some (.int kind),some (.int p),some (.ref Pc),none,none,none,none] /\ Same H1 H' /\ H' Pc = some (.lst us) /\ Reps K H' us (xs.map tI) /\ Dl xs /\ xs.length <= 40) ?_ fun key => ?_
   rotate_left
   . refine ⟨_,rfl,_,_,rfl,rfl,⟨by decide,by decide⟩,_,rfl,_,rfl,_,rfl,a,_,rfl,hS1,fun C hC => ?_⟩
     rw [Ar8]
     have s2 := Same.new (o := .lst ((cutS ns (some 2) (some 63)).map V.int)) hC
     have hC1 : (upd H1 C (.lst ((cutS ns (some 2) (some 63)).map V.int))) C = some (.lst ((cutS ns (some 2) (some 63)).map V.int)) := Ab
     have cl1 := Ar9 ns (some 2) (some 63)
     generalize cutS ns (some 2) (some 63) = ms at s2 hC1 cl1 ⊢
     generalize upd H1 C (.lst (ms.map V.int)) = H2 at s2 hC1 ⊢
     refine ⟨A9 (by simp),fun T1 hT1 => ?_⟩
     obtain ⟨x,hx,x0,x1⟩ : ∃ x : Int,atI [V.int 8,V.int 16,V.int 24,V.int 40] (kind % 4) = some (.int x) /\ 0 <= x /\ x <= 40 := by
      rcases (show kind % 4 = 0 \/ kind % 4 = 1 \/ kind % 4 = 2 \/ kind % 4 = 3 by omega) with e | e | e | e <;> rw [e] <;> exact ⟨_,rfl,by decide,by decide⟩
     have s3 : Same H2 (upd H2 T1 (.tup [.int 8,.int 16,.int 24,.int 40])) := Same.new hT1
     refine ⟨_,rfl,_,_,rfl,rfl,p4,T1,_,_,_,rfl,rfl,.of Ab,hx,C,ms,_,x,rfl,.of (s3 _ _ hC1),by omega,x0,x1,fun Pc us xs H' hp s' hp' r' hC hxl => ?_⟩
     exact key _ _ ⟨Pc,us,xs,rfl,(s2.trans s3).trans s',hp',r',hC,by omega⟩
   rintro _ H2 ⟨Pc,us,xs,rfl,s2,hPc,rPc,hsh,hx40⟩
   refine Ar (fun σ' H' => ∃ (g pc sh ed en : Addr),σ' = [some (.ref a),some (.int kind),some (.int p),some (.ref Pc),some (.ref g),none,none,none] /\ Same H2 H' /\ B5 K C_Growth H' g pc sh ed en p [] [] [] [] /\ ∀ c,W4 pc sh ed en c -> H2 c = none) ?_ fun key => ?_
   rotate_left
   . refine ⟨_,rfl,?_⟩
     intro g dx ng ndx nedx
     have sN : Same H2 (upd (upd H2 dx (.own g)) g (.ins C_Growth dx [])) := (Same.new ndx).turn ng
     have eg : upd (upd H2 dx (.own g)) g (.ins C_Growth dx []) g = some (.ins C_Growth dx []) := Ab
     generalize upd (upd H2 dx (.own g)) g (.ins C_Growth dx []) = H3 at sN eg ⊢
     refine ⟨g,dx,p,rfl,eg,hpr,h98,fun pc sh ed en H4 npc nsh ned nen sx x => ⟨rfl,?_⟩⟩
     refine key _ _ ⟨g,pc,sh,ed,en,rfl,fun c o e => sx c o (Ak e ng) (sN _ _ e),x,?_⟩
     rintro c (rfl | rfl | rfl | rfl)
     . exact sN.free npc
     . exact sN.free nsh
     . exact sN.free ned
     . exact sN.free nen
   rintro _ H3 ⟨g,pc,sh,ed,en,rfl,s3,x3,new3⟩
   refine Ar (t := tIfS _ _ _) (fun σ' H' => ∃ (g pc sh ed en : Addr),σ' = [some (.ref a),some (.int kind),some (.int p),some (.ref Pc),some (.ref g),none,none,none] /\ Same H2 H' /\ B5 K C_Growth H' g pc sh ed en p [] [] [] [] /\ ∀ c,W4 pc sh ed en c -> H2 c = none) ?_ fun key => ?_
   rotate_left
   . have stay : _ := key _ _ ⟨g,pc,sh,ed,en,rfl,s3,x3,new3⟩
     refine ⟨_,rfl,rfl,_,rfl,?_⟩
     refine ite2 (fun h2 => ?_) (fun h2 => ?_)
     rotate_left
     . refine ifN (by decide) ?_
       exact stay
     have hp2 : p = 2 := by simpa using h2
     refine ⟨_,rfl,_,_,rfl,rfl,(by show (0 : Int) < 2; decide),rfl,_,rfl,?_⟩
     refine ite2 (fun _ => ?_) (fun _ => stay)
     intro g dx ng ndx nedx
     have sN : Same H3 (upd (upd H3 dx (.own g)) g (.ins C_Growth dx [])) := (Same.new ndx).turn ng
     have eg : upd (upd H3 dx (.own g)) g (.ins C_Growth dx []) g = some (.ins C_Growth dx []) := Ab
     generalize upd (upd H3 dx (.own g)) g (.ins C_Growth dx []) = H4 at sN eg ⊢
     subst hp2
     refine ⟨g,dx,2,rfl,eg,hpr,h98,fun pc sh ed en H5 npc nsh ned nen sx x => ⟨rfl,?_⟩⟩
     have s34 := s3.trans sN
     refine key _ _ ⟨g,pc,sh,ed,en,rfl,fun c o e => sx c o (Ak (s3 _ _ e) ng) (s34 _ _ e),x,?_⟩
     rintro c (rfl | rfl | rfl | rfl)
     . exact s34.free npc
     . exact s34.free nsh
     . exact s34.free ned
     . exact s34.free nen
   clear x3 new3 s3
   rintro _ H3 ⟨g,pc,sh,ed,en,rfl,s3,x3,new3⟩
   have hPc3 := s3 _ _ hPc
   have r3 := Reps.same s3 rPc
   have usl : us.length = xs.length := by have := r3.length; simpa using this
   have nPc : ¬ W4 pc sh ed en Pc := fun w => by rw [new3 Pc w] at hPc; cases hPc
   refine Ar (fun σ' G => ∃ (An : Addr) (rs : List V) (es ss : List Ms) (bs : Ms),σ' = [some (.ref a),some (.int kind),some (.int p),some (.ref Pc),some (.ref g),some (.ref An),none,none] /\ FrG pc sh ed en H3 G /\ G An = some (.lst rs) /\ ¬ W4 pc sh ed en An /\ AnsL es rs /\ B5 K C_Growth G g pc sh ed en p xs es ss bs /\ El p xs es ss) ?_ fun key => ?_
   rotate_left
   . refine ⟨_,rfl,Pc,rfl,⟨_,.of hPc3⟩,fun D hD => ?_⟩
     have nW : ∀ c,W4 pc sh ed en c -> c ≠ D := fun c w z => (x3.mut c w).there (by rw [z]; exact hD)
     have nDW : ¬ W4 pc sh ed en D := fun w => nW D w rfl
     have nd1 : D ≠ pc := (nW pc (.inl rfl)).symm
     have nd2 : D ≠ sh := (nW sh (.inr (.inl rfl))).symm
     have nd3 : D ≠ ed := (nW ed (.inr (.inr (.inl rfl)))).symm
     refine Il (K := K) (a := Pc) (xs := us) (fun i ys τ G => ∃ (es ss : List Ms) (bs : Ms),FrG pc sh ed en H3 G /\ G D = some (.lst ys) /\ ys.length = i /\ AnsL es ys /\ B5 K C_Growth G g pc sh ed en p (xs.take i) es ss bs /\ El p (xs.take i) es ss /\ ∃ o,τ = [o,some (.ref g)])
      ⟨[],[],[],FrG.of (Same.new hD),Ab,rfl,⟨rfl,fun i m r e => by simp at e⟩,x3.same (Same.new hD),El.nil,none,rfl⟩ (fun i ys τ G _ ⟨_,_,_,fr,_⟩ => .of (fr _ _ nPc hPc3)) ?_ ?_
     . rintro i v ys τ G hv ⟨es,ss,bs,fr,hDG,hyl,ans,x,shx,o,rfl⟩
       have hi : i < xs.length := by rw [← usl]; exact (List.getElem?_eq_some_iff.mp hv).1
       have hxi : xs[i]? = some xs[i] := List.getElem?_eq_getElem hi
       obtain ⟨dv,hdv,rv⟩ := r3.getV hv
       have edv : dv = tI xs[i] := by
        rw [List.getElem?_map,hxi] at hdv
        exact (Option.some.inj hdv).symm
       subst edv
       have tv : TI K G v xs[i] := Rep.t (fr.t x3) (Ah0 _) rv
       have hfit : En (xs.take i) (tI xs[i]) = true := Az9 (hsh i _ hxi)
       have etk : xs.take (i + 1) = xs.take i ++ [xs[i]] := by rw [List.take_succ,hxi]; rfl
       obtain ⟨dx,fs,hg,l1,l2,l3,l4,l5,lm⟩ := x.ob
       refine ⟨_,rfl,g,dx,fs,rfl,hg,lm.1,_,rfl,g,pc,sh,ed,en,v,p,xs.take i,xs[i],es,ss,bs,rfl,x,tv,hfit,by rw [List.length_take]; omega,shx,fun r me ms bs' G1 fr1 x1 sh1 an => ?_⟩
       have hD1 := fr1 _ _ nDW hDG
       refine ⟨hD1,Cq (by omega),es ++ [me],ss ++ [ms],bs',?_,Ab,by simp [hyl],ans.snoc an,?_,?_,_,rfl⟩
       . intro c o' n e
         rw [Ae (Ak e hD)]
         exact fr1 c o' n (fr c o' n e)
       . rw [etk]; exact x1.other hD1 nd1 nd2 nd3
       . rw [etk]; exact sh1
     . rintro ys τ G ⟨es,ss,bs,fr,hDG,hyl,ans,x,shx,o,rfl⟩
       rw [usl,List.take_length] at x shx
       exact key _ _ ⟨D,ys,es,ss,bs,rfl,fr,hDG,nDW,ans,x,shx⟩
   rintro _ H4 ⟨An,rs,es,ss,bs,rfl,fr4,hAn,nAn,ans,x4,sh4⟩
   have LP : LT K H4 (.ref Pc) xs := ⟨Pc,us,rfl,.of (fr4 _ _ nPc hPc3),Reps.t (fr4.t x3) (Ih _) r3⟩
   refine Ar (fun σ' H' => ∃ (Du : Addr),σ' = [some (.ref a),some (.int kind),some (.int p),some (.ref Pc),some (.ref g),some (.ref An),some (.ref Du),none] /\ Same H4 H' /\ Rep K H' (.ref Du) (.lst (Kj es bs))) ?_ fun key => ?_
   rotate_left
   . exact ⟨_,rfl,_,rfl,_,rfl,g,pc,sh,ed,en,Pc,p,xs,es,ss,bs,rfl,x4,sh4,LP,fun l vs H' nl s' el rl => key _ _ ⟨l,rfl,s',⟨l,vs,rfl,.of el,rl⟩⟩⟩
   rintro _ H5 ⟨Du,rfl,s5,rDu⟩
   have x5 := x4.same s5
   refine Ar (t := tIfS _ _ _) (fun σ' H' => σ' = [some (.ref a),some (.int kind),some (.int p),some (.ref Pc),some (.ref g),some (.ref An),some (.ref Du),none] /\ Same H5 H') ?_ fun key => ?_
   rotate_left
   . refine ⟨_,rfl,rfl,_,rfl,?_⟩
     refine ifN (by simp) ?_
     refine ⟨_,rfl,_,rfl,An,Du,rs,p,xs,es,ss,bs,rfl,.of (s5 _ _ hAn),ans,rDu,x4.gw,fun H' s' => ⟨_,rfl,?_⟩⟩
     refine ifN (by decide) ?_
     exact key _ _ ⟨rfl,s'⟩
   rintro _ H6 ⟨rfl,s6⟩
   have x6 := x5.same s6
   have rDu6 := Rep.same s6 rDu
   obtain ⟨dx,fs,hg,l1,l2,l3,l4,l5,lm⟩ := x6.ob
   refine Ar (fun σ' H' => ∃ (Fo : Addr) (vs : List V),σ' = [some (.ref a),some (.int kind),some (.int p),some (.ref Pc),some (.ref g),some (.ref An),some (.ref Du),some (.ref Fo)] /\ Same H6 H' /\ H6 Fo = none /\ H' Fo = some (.lst vs) /\ Reps K H' vs (Kj es bs)) ?_ fun key => ?_
   rotate_left
   . exact ⟨_,rfl,g,dx,fs,rfl,hg,lm.2.2.2.2.2.1,g,pc,sh,ed,en,p,xs,es,ss,bs,rfl,x6,fun l vs H' nl s' el rl => key _ _ ⟨l,vs,rfl,s',nl,el,rl⟩⟩
   rintro _ H7 ⟨Fo,vs,rfl,s7,nFo,eFo,rFo⟩
   refine Ar (t := tIfS _ _ _) (fun σ' H' => σ' = [some (.ref a),some (.int kind),some (.int p),some (.ref Pc),some (.ref g),some (.ref An),some (.ref Du),some (.ref Fo)] /\ Same H7 H') ?_ fun key => ?_
   rotate_left
   . refine ⟨_,rfl,_,rfl,Fo,Du,es,bs,rfl,⟨Fo,vs,rfl,.of eFo,rFo⟩,Rep.same s7 rDu6,fun H' s' => ⟨_,rfl,?_⟩⟩
     refine ifN (by decide) ?_
     exact key _ _ ⟨rfl,s'⟩
   rintro _ H8 ⟨rfl,s8⟩
   have eFo8 := s8 _ _ eFo
   refine ⟨_,rfl,.inl ⟨rfl,_,.of eFo8⟩,Fo,_,rfl,rfl,eFo8,?_⟩
   have s69 : Same H6 (upd H8 Fo (.lst [])) := (s7.trans s8).turn nFo
   generalize upd H8 Fo (.lst []) = H9 at s69 ⊢
   have x9 := x6.same s69
   have rDu9 := Rep.same s69 rDu6
   have LP9 : LT K H9 (.ref Pc) xs := Rep.same (s5.trans (s6.trans s69)) LP
   refine Ar (fun σ' H' => σ' = [some (.ref a),some (.int kind),some (.int p),some (.ref Pc),some (.ref g),some (.ref An),some (.ref Du),some (.ref Fo)] /\ H9 = H') ?_ fun key0 => key0 _ _ ⟨rfl,rfl⟩
   rintro _ _ ⟨rfl,rfl⟩
   refine Ar (t := tIfS _ _ _) (fun σ' H' => σ' = [some (.ref a),some (.int kind),some (.int p),some (.ref Pc),some (.ref g),some (.ref An),some (.ref Du),some (.ref Fo)] /\ Same H9 H') ?_ fun key => ?_
   rotate_left
   . refine ⟨_,rfl,_,rfl,_,rfl,g,pc,sh,ed,en,Pc,p,xs,es,ss,bs,rfl,x9,sh4,LP9,fun l ws H' nl s' el rl => ?_⟩
     refine ⟨_,rfl,.lst (Kj es bs),.lst (Kj es bs),⟨l,ws,rfl,.of el,rl⟩,Rep.same s' rDu9,?_,_,rfl,?_⟩
     . have := Ru bs (D6 es es.length)
       show deps ((D6 es es.length).map (Fb bs)) + 1 <= 8
       omega
     . refine ifN (by rw [Ku]; decide) ?_
       exact key _ _ ⟨rfl,s'⟩
   rintro _ H10 ⟨rfl,s10⟩
   exact ⟨_,rfl,g,dx,fs,rfl,s10 _ _ (s69 _ _ hg),lm.2.2.2.2.2.1,g,pc,sh,ed,en,p,xs,es,ss,bs,rfl,x9.same s10,fun l ws H' nl s' el rl => ⟨_,rfl,l,Du,es,bs,rfl,⟨l,ws,rfl,.of el,rl⟩,Rep.same (s10.trans s') rDu9,fun H'' _ => k H''⟩⟩
end
end Hb
namespace Hb
open PySem L2
theorem V4 {α : Type} {P : List α -> Prop} (h : ∀ a0,P [a0]) (us : List α) (hl : us.length = 1) : P us := by
 cases us with
 | nil => exact nomatch hl
 | cons a0 u0 =>
   cases u0 with
   | nil => exact h a0
   | cons _ _ => simp at hl
theorem Hs {α : Type} {P : List α -> Prop} (h : ∀ a0 a1,P [a0,a1]) (us : List α) (hl : us.length = 2) : P us := by
 cases us with
 | nil => exact nomatch hl
 | cons a0 u0 =>
   cases u0 with
   | nil => exact nomatch hl
   | cons a1 u1 =>
     cases u1 with
     | nil => exact h a0 a1
     | cons _ _ => simp at hl
theorem Nb {α : Type} {P : List α -> Prop} (h : ∀ a0 a1 a2,P [a0,a1,a2]) (us : List α) (hl : us.length = 3) : P us := by
 cases us with
 | nil => exact nomatch hl
 | cons a0 u0 =>
   cases u0 with
   | nil => exact nomatch hl
   | cons a1 u1 =>
     cases u1 with
     | nil => exact nomatch hl
     | cons a2 u2 =>
       cases u2 with
       | nil => exact h a0 a1 a2
       | cons _ _ => simp at hl
theorem Ba7 {α : Type} {P : List α -> Prop} (h : ∀ a0 a1 a2 a3,P [a0,a1,a2,a3]) (us : List α) (hl : us.length = 4) : P us := by
 cases us with
 | nil => exact nomatch hl
 | cons a0 u0 =>
   cases u0 with
   | nil => exact nomatch hl
   | cons a1 u1 =>
     cases u1 with
     | nil => exact nomatch hl
     | cons a2 u2 =>
       cases u2 with
       | nil => exact nomatch hl
       | cons a3 u3 =>
         cases u3 with
         | nil => exact h a0 a1 a2 a3
         | cons _ _ => simp at hl
set_option maxHeartbeats 4000000 in
theorem all_mk {l : PySem.W.OpenLaw} {w : World} {K : W.Frag} {h : Heap} {mg : Str -> Option Value} {fa : Addr} {C_Growth : Addr}
 {Mc : Addr} {Xx Yw : Option Addr} {Xg : Array (Option Value)} {X0 Yd Yn Xo Po Yq : Value}
 {Dt : Addr} {Lx Mp : Option Addr} {Lg : Array (Option Value)} {L1 L6 Mf Lo Fi Mj : Value}
 {Mb : Addr} {Xw Yv : Option Addr} {Xf : Array (Option Value)} {Xz Yc Ym Xn Pn Yp : Value}
 {Gd : Addr} {Qt Rm : Option Addr} {P8 : Array (Option Value)} {Qy Q6 Rb Qj Je Rh : Value}
 {T9 : Addr} {Ad1 Am3 : Option Addr} {y3 : Array (Option Value)} {Ad7 Ag2 Aj1 Aa8 Wh Aj9 : Value}
 {Yi : Addr} {Ap8 As5 : Option Addr} {An7 : Array (Option Value)} {Ap9 Aq9 Ar6 Ao2 Zk As0 : Value}
 {Hn : Addr} {Tl Us : Option Addr} {S0 : Array (Option Value)} {Tp Ty Uh Tb K0 Um : Value}
 {O3 : Addr} {d4 q9 : Option Addr} {Zx : Array (Option Value)} {e8 i6 l8 a8 Ry m7 : Value}
 {Dp : Addr} {Ol P0 : Option Addr} {N3 : Array (Option Value)} {Oo Ow Pf Ob Hv Pj : Value}
 {O4 : Addr} {d5 r6 : Option Addr} {Zy : Array (Option Value)} {f6 i7 l9 a9 Rz m8 : Value}
 {Jz : Addr} {Vk W1 : Option Addr} {U3 : Array (Option Value)} {Vn Vx V9 Vb M0 Wc : Value}
 {O7 : Addr} {d8 u4 : Option Addr} {Z1 : Array (Option Value)} {f9 j5 m5 b6 R5 n6 : Value}
 {O6 : Addr} {d7 t0 : Option Addr} {Z0 : Array (Option Value)} {f8 i9 m4 b5 R4 n0 : Value}
 {Ub : Addr} {Ad3 Am5 : Option Addr} {y6 : Array (Option Value)} {Ad9 Ag4 Aj3 Ab0 Wj Ak1 : Value}
 {Hr : Addr} {To Uv : Option Addr} {S3 : Array (Option Value)} {Ts T2 Uk Te K3 Uq : Value}
 {Jy : Addr} {Vj Wz : Option Addr} {U2 : Array (Option Value)} {Vm Vw V8 Va Mz Wb : Value}
 {O5 : Addr} {d6 r9 : Option Addr} {Zz : Array (Option Value)} {f7 i8 m3 b4 R3 m9 : Value}
 {Ue : Addr} {Ad6 Am8 : Option Addr} {y9 : Array (Option Value)} {Ae2 Ag7 Aj6 Ab3 Wm Ak4 : Value}
 {Dv : Addr} {Ly Mq : Option Addr} {Lh : Array (Option Value)} {L3 L7 Mg Lp Fj Ml : Value}
 {Ai0 : Addr} {Ay0 A13 : Option Addr} {Av3 : Array (Option Value)} {Ay2 Az0 A04 Aw3 Ak9 A07 : Value}
 {Jx : Addr} {Vi Wy : Option Addr} {U1 : Array (Option Value)} {Vl Vv V7 U9 My Wa : Value}
 {Gc : Addr} {Qs Rl : Option Addr} {P7 : Array (Option Value)} {Qx Q5 Ra Qi Jd Rg : Value}
 {Ud : Addr} {Ad5 Am7 : Option Addr} {y8 : Array (Option Value)} {Ae1 Ag6 Aj5 Ab2 Wl Ak3 : Value}
 {Ua : Addr} {Ad2 Am4 : Option Addr} {y4 : Array (Option Value)} {Ad8 Ag3 Aj2 Aa9 Wi Ak0 : Value}
 {Ez : Addr} {Oi Py : Option Addr} {N1 : Array (Option Value)} {Om Ou Pd N9 Ht Ph : Value}
 {Hq : Addr} {Tn Uu : Option Addr} {S2 : Array (Option Value)} {Tr T0 Uj Td K2 Up : Value}
 {Gf : Addr} {Qv Ro : Option Addr} {Qa : Array (Option Value)} {Q0 Q8 Re Ql Jg Rj : Value}
 {Dj : Addr} {Km K6 : Option Addr} {Kc : Array (Option Value)} {Kn Ks Kx Kh Ev Ky : Value}
 {Cu : Addr} {Ir Iy : Option Addr} {Im : Array (Option Value)} {Iu Iv Iw Ip Dy Ix : Value}
 {Md : Addr} {Xy Yx : Option Addr} {Xh : Array (Option Value)} {X1 Ye Yo Xp Pp Yr : Value}
 {Cp : Addr} {Lz Mr : Option Addr} {Li : Array (Option Value)} {L4 L8 Mh Lq Fk Mm : Value}
 {Do : Addr} {Oj Pz : Option Addr} {N2 : Array (Option Value)} {On Ov Pe Oa Hu Pi : Value}
 {Uc : Addr} {Ad4 Am6 : Option Addr} {y7 : Array (Option Value)} {Ae0 Ag5 Aj4 Ab1 Wk Ak2 : Value}
 {Ho : Addr} {Tm Ut : Option Addr} {S1 : Array (Option Value)} {Tq Tz Ui Tc K1 Uo : Value}
 {Ai1 : Addr} {Ay1 A14 : Option Addr} {Av5 : Array (Option Value)} {Ay3 Az1 A05 Aw4 Al1 A08 : Value}
 {Cg : Addr} {Gn Gs : Option Addr} {Gi : Array (Option Value)} {Go Gp Gq Gj Dx Gr : Value}
 {Dw : Addr} {Gh : Nat} {E1 : Array (Option Value)} {E2 : Option Addr} {tk_Growth__init__0 : Tok}
 {O8 : Addr} {d9 u5 : Option Addr} {Z2 : Array (Option Value)} {g5 j6 m6 b7 R6 o0 : Value}
 {Ge : Addr} {Qu Rn : Option Addr} {P9 : Array (Option Value)} {Qz Q7 Rc Qk Jf Ri : Value}
 {D5 : Addr} {Qw Rp : Option Addr} {Qb : Array (Option Value)} {Q1 Q9 Rf Qm Jh Rk : Value}
 {A01 : Addr} {A45 Au4 : Option Addr} {A25 : Array (Option Value)} {A46 At8 Au2 At1 Al0 Au3 : Value}
 {t_MOST_PIECES : Tok}
 {t_PRIME_BOUND : Tok}
 {fc_FACE_COUNTS : Addr} {nc_FACE_COUNTS : Nat} {slc_FACE_COUNTS : Array (Option Value)} {tc_FACE_COUNTS_0 tc_FACE_COUNTS_1 tc_FACE_COUNTS_2 tc_FACE_COUNTS_3 : Tok}
 (X : K.In h) (G : h.Ns mainGlobals mg) (hfa : mg "law" = some (.ref fa))
 (ac_Growth : PySem.W.nsIn K mainGlobals "Growth" = some (some (.ref C_Growth)))
 (zq2y : PySem.W.nsIn K mainGlobals "is_whole" = some (some (.ref Mc)))
 (zq2s : K.lookup Mc = some ⟨X0,Xx,.func (PySem.W.fnOf "is_whole" "is_whole" (Av D9) (At D9) (Af D9) .none Yd Yn Xo Yw Po Yq),Xg⟩)
 (zq2v : PySem.W.codeIn K Po "is_whole" = true)
 (zq2a : PySem.W.keepIn K (.ref Mc) = true)
 (zq0o : PySem.W.nsIn K mainGlobals "shared_divisor" = some (some (.ref Dt)))
 (zq0i : K.lookup Dt = some ⟨L1,Lx,.func (PySem.W.fnOf "shared_divisor" "shared_divisor" (Av Bj) (At Bj) (Af Bj) .none L6 Mf Lo Mp Fi Mj),Lg⟩)
 (zq0l : PySem.W.codeIn K Fi "shared_divisor" = true)
 (zq02 : PySem.W.keepIn K (.ref Dt) = true)
 (zq2x : PySem.W.nsIn K mainGlobals "level_of" = some (some (.ref Mb)))
 (zq2r : K.lookup Mb = some ⟨Xz,Xw,.func (PySem.W.fnOf "level_of" "level_of" (Av D8) (At D8) (Af D8) .none Yc Ym Xn Yv Pn Yp),Xf⟩)
 (zq2u : PySem.W.codeIn K Pn "level_of" = true)
 (zq29 : PySem.W.keepIn K (.ref Mb) = true)
 (zq1t : PySem.W.nsIn K mainGlobals "faces_agree" = some (some (.ref Gd)))
 (zq1g : K.lookup Gd = some ⟨Qy,Qt,.func (PySem.W.fnOf "faces_agree" "faces_agree" (Av Cj) (At Cj) (Af Cj) .none Q6 Rb Qj Rm Je Rh),P8⟩)
 (zq1o : PySem.W.codeIn K Je "faces_agree" = true)
 (zq0s : PySem.W.keepIn K (.ref Gd) = true)
 (zq41 : PySem.W.nsIn K mainGlobals "add_at" = some (some (.ref T9)))
 (zq3o : K.lookup T9 = some ⟨Ad7,Ad1,.func (PySem.W.fnOf "add_at" "add_at" (Av Fs) (At Fs) (Af Fs) .none Ag2 Aj1 Aa8 Am3 Wh Aj9),y3⟩)
 (zq3v : PySem.W.codeIn K Wh "add_at" = true)
 (zq30 : PySem.W.keepIn K (.ref T9) = true)
 (zq49 : PySem.W.nsIn K mainGlobals "times" = some (some (.ref Yi)))
 (zq47 : K.lookup Yi = some ⟨Ap9,Ap8,.func (PySem.W.fnOf "times" "times" (Av Ln) (At Ln) (Af Ln) .none Aq9 Ar6 Ao2 As5 Zk As0),An7⟩)
 (zq48 : PySem.W.codeIn K Zk "times" = true)
 (zq3u : PySem.W.keepIn K (.ref Yi) = true)
 (zq25 : PySem.W.nsIn K mainGlobals "check_size" = some (some (.ref Hn)))
 (zq1x : K.lookup Hn = some ⟨Tp,Tl,.func (PySem.W.fnOf "check_size" "check_size" (Av Cy) (At Cy) (Af Cy) .none Ty Uh Tb Us K0 Um),S0⟩)
 (zq21 : PySem.W.codeIn K K0 "check_size" = true)
 (zq11 : PySem.W.keepIn K (.ref Hn) = true)
 (zq3i : PySem.W.nsIn K mainGlobals "counted" = some (some (.ref O3)))
 (zq36 : K.lookup O3 = some ⟨e8,d4,.func (PySem.W.fnOf "counted" "counted" (Av E4) (At E4) (Af E4) .none i6 l8 a8 q9 Ry m7),Zx⟩)
 (zq3c : PySem.W.codeIn K Ry "counted" = true)
 (zq2l : PySem.W.keepIn K (.ref O3) = true)
 (zq1e : PySem.W.findIn K (.ref C_Growth) "pairs" = some (some (.ref Dp)))
 (zq0z : PySem.W.isFn K (.ref Dp) = true)
 (zq17 : K.lookup Dp = some ⟨Oo,Ol,.func (PySem.W.fnOf "pairs" "Growth.pairs" (Av Bp) (At Bp) (Af Bp) .none Ow Pf Ob P0 Hv Pj),N3⟩)
 (zq1b : PySem.W.codeIn K Hv "Growth.pairs" = true)
 (zq0g : PySem.W.keepIn K (.ref Dp) = true)
 (zq3j : PySem.W.nsIn K mainGlobals "_law_whole" = some (some (.ref O4)))
 (zq37 : K.lookup O4 = some ⟨f6,d5,.func (PySem.W.fnOf "_law_whole" "_law_whole" (Av E5) (At E5) (Af E5) .none i7 l9 a9 r6 Rz m8),Zy⟩)
 (zq3d : PySem.W.codeIn K Rz "_law_whole" = true)
 (zq2m : PySem.W.keepIn K (.ref O4) = true)
 (zq2k : PySem.W.nsIn K mainGlobals "_law_cell_at" = some (some (.ref Jz)))
 (zq2e : K.lookup Jz = some ⟨Vn,Vk,.func (PySem.W.fnOf "_law_cell_at" "_law_cell_at" (Av Df) (At Df) (Af Df) .none Vx V9 Vb W1 M0 Wc),U3⟩)
 (zq2h : PySem.W.codeIn K M0 "_law_cell_at" = true)
 (zq1m : PySem.W.keepIn K (.ref Jz) = true)
 (zq3m : PySem.W.nsIn K mainGlobals "_law_level" = some (some (.ref O7)))
 (zq3a : K.lookup O7 = some ⟨f9,d8,.func (PySem.W.fnOf "_law_level" "_law_level" (Av E8) (At E8) (Af E8) .none j5 m5 b6 u4 R5 n6),Z1⟩)
 (zq3g : PySem.W.codeIn K R5 "_law_level" = true)
 (zq2p : PySem.W.keepIn K (.ref O7) = true)
 (zq3l : PySem.W.nsIn K mainGlobals "_law_meets" = some (some (.ref O6)))
 (zq39 : K.lookup O6 = some ⟨f8,d7,.func (PySem.W.fnOf "_law_meets" "_law_meets" (Av E7) (At E7) (Af E7) .none i9 m4 b5 t0 R4 n0),Z0⟩)
 (zq3f : PySem.W.codeIn K R4 "_law_meets" = true)
 (zq2o : PySem.W.keepIn K (.ref O6) = true)
 (zq43 : PySem.W.nsIn K mainGlobals "_law_pick" = some (some (.ref Ub)))
 (zq3q : K.lookup Ub = some ⟨Ad9,Ad3,.func (PySem.W.fnOf "_law_pick" "_law_pick" (Av Ia) (At Ia) (Af Ia) .none Ag4 Aj3 Ab0 Am5 Wj Ak1),y6⟩)
 (zq3x : PySem.W.codeIn K Wj "_law_pick" = true)
 (zq32 : PySem.W.keepIn K (.ref Ub) = true)
 (zq28 : PySem.W.nsIn K mainGlobals "_law_faces_by" = some (some (.ref Hr)))
 (zq20 : K.lookup Hr = some ⟨Ts,To,.func (PySem.W.fnOf "_law_faces_by" "_law_faces_by" (Av Cz) (At Cz) (Af Cz) .none T2 Uk Te Uv K3 Uq),S3⟩)
 (zq24 : PySem.W.codeIn K K3 "_law_faces_by" = true)
 (zq14 : PySem.W.keepIn K (.ref Hr) = true)
 (zq2j : PySem.W.nsIn K mainGlobals "_law_word_by" = some (some (.ref Jy)))
 (zq2d : K.lookup Jy = some ⟨Vm,Vj,.func (PySem.W.fnOf "_law_word_by" "_law_word_by" (Av De) (At De) (Af De) .none Vw V8 Va Wz Mz Wb),U2⟩)
 (zq2g : PySem.W.codeIn K Mz "_law_word_by" = true)
 (zq1l : PySem.W.keepIn K (.ref Jy) = true)
 (zq3k : PySem.W.nsIn K mainGlobals "_law_prime" = some (some (.ref O5)))
 (zq38 : K.lookup O5 = some ⟨f7,d6,.func (PySem.W.fnOf "_law_prime" "_law_prime" (Av E6) (At E6) (Af E6) .none i8 m3 b4 r9 R3 m9),Zz⟩)
 (zq3e : PySem.W.codeIn K R3 "_law_prime" = true)
 (zq2n : PySem.W.keepIn K (.ref O5) = true)
 (zq46 : PySem.W.nsIn K mainGlobals "_law_edge" = some (some (.ref Ue)))
 (zq3t : K.lookup Ue = some ⟨Ae2,Ad6,.func (PySem.W.fnOf "_law_edge" "_law_edge" (Av Fu) (At Fu) (Af Fu) .none Ag7 Aj6 Ab3 Am8 Wm Ak4),y9⟩)
 (zq40 : PySem.W.codeIn K Wm "_law_edge" = true)
 (zq35 : PySem.W.keepIn K (.ref Ue) = true)
 (zq0p : PySem.W.nsIn K mainGlobals "is_whole_below" = some (some (.ref Dv)))
 (zq0j : K.lookup Dv = some ⟨L3,Ly,.func (PySem.W.fnOf "is_whole_below" "is_whole_below" (Av Bk) (At Bk) (Af Bk) .none L7 Mg Lp Mq Fj Ml),Lh⟩)
 (zq0m : PySem.W.codeIn K Fj "is_whole_below" = true)
 (zq03 : PySem.W.keepIn K (.ref Dv) = true)
 (zq4g : PySem.W.nsIn K mainGlobals "plus" = some (some (.ref Ai0)))
 (zq4c : K.lookup Ai0 = some ⟨Ay2,Ay0,.func (PySem.W.fnOf "plus" "plus" (Av Rs) (At Rs) (Af Rs) .none Az0 A04 Aw3 A13 Ak9 A07),Av3⟩)
 (zq4e : PySem.W.codeIn K Ak9 "plus" = true)
 (zq4a : PySem.W.keepIn K (.ref Ai0) = true)
 (zq2i : PySem.W.nsIn K mainGlobals "add_faces" = some (some (.ref Jx)))
 (zq2c : K.lookup Jx = some ⟨Vl,Vi,.func (PySem.W.fnOf "add_faces" "add_faces" (Av Dd) (At Dd) (Af Dd) .none Vv V7 U9 Wy My Wa),U1⟩)
 (zq2f : PySem.W.codeIn K My "add_faces" = true)
 (zq1k : PySem.W.keepIn K (.ref Jx) = true)
 (zq1s : PySem.W.nsIn K mainGlobals "turned_over" = some (some (.ref Gc)))
 (zq1f : K.lookup Gc = some ⟨Qx,Qs,.func (PySem.W.fnOf "turned_over" "turned_over" (Av Ci) (At Ci) (Af Ci) .none Q5 Ra Qi Rl Jd Rg),P7⟩)
 (zq1n : PySem.W.codeIn K Jd "turned_over" = true)
 (zq0r : PySem.W.keepIn K (.ref Gc) = true)
 (zq45 : PySem.W.nsIn K mainGlobals "_law_fits" = some (some (.ref Ud)))
 (zq3s : K.lookup Ud = some ⟨Ae1,Ad5,.func (PySem.W.fnOf "_law_fits" "_law_fits" (Av Ft) (At Ft) (Af Ft) .none Ag6 Aj5 Ab2 Am7 Wl Ak3),y8⟩)
 (zq3z : PySem.W.codeIn K Wl "_law_fits" = true)
 (zq34 : PySem.W.keepIn K (.ref Ud) = true)
 (zq42 : PySem.W.nsIn K mainGlobals "_law_side" = some (some (.ref Ua)))
 (zq3p : K.lookup Ua = some ⟨Ad8,Ad2,.func (PySem.W.fnOf "_law_side" "_law_side" (Av Hz) (At Hz) (Af Hz) .none Ag3 Aj2 Aa9 Am4 Wi Ak0),y4⟩)
 (zq3w : PySem.W.codeIn K Wi "_law_side" = true)
 (zq31 : PySem.W.keepIn K (.ref Ua) = true)
 (zq1c : PySem.W.nsIn K mainGlobals "_law_words_with" = some (some (.ref Ez)))
 (zq15 : K.lookup Ez = some ⟨Om,Oi,.func (PySem.W.fnOf "_law_words_with" "_law_words_with" (Av Bo) (At Bo) (Af Bo) .none Ou Pd N9 Py Ht Ph),N1⟩)
 (zq19 : PySem.W.codeIn K Ht "_law_words_with" = true)
 (zq0e : PySem.W.keepIn K (.ref Ez) = true)
 (zq27 : PySem.W.nsIn K mainGlobals "_law_is_paper" = some (some (.ref Hq)))
 (zq1z : K.lookup Hq = some ⟨Tr,Tn,.func (PySem.W.fnOf "_law_is_paper" "_law_is_paper" (Av B9) (At B9) (Af B9) .none T0 Uj Td Uu K2 Up),S2⟩)
 (zq23 : PySem.W.codeIn K K2 "_law_is_paper" = true)
 (zq13 : PySem.W.keepIn K (.ref Hq) = true)
 (zq1v : PySem.W.nsIn K mainGlobals "_law_are_pairs" = some (some (.ref Gf)))
 (zq1i : K.lookup Gf = some ⟨Q0,Qv,.func (PySem.W.fnOf "_law_are_pairs" "_law_are_pairs" (Av Bz) (At Bz) (Af Bz) .none Q8 Re Ql Ro Jg Rj),Qa⟩)
 (zq1q : PySem.W.codeIn K Jg "_law_are_pairs" = true)
 (zq0u : PySem.W.keepIn K (.ref Gf) = true)
 (zq0d : PySem.W.nsIn K mainGlobals "_law_answers_right" = some (some (.ref Dj)))
 (zq0a : K.lookup Dj = some ⟨Kn,Km,.func (PySem.W.fnOf "_law_answers_right" "_law_answers_right" (Av Bh) (At Bh) (Af Bh) .none Ks Kx Kh K6 Ev Ky),Kc⟩)
 (zq0c : PySem.W.codeIn K Ev "_law_answers_right" = true)
 (zq01 : PySem.W.keepIn K (.ref Dj) = true)
 (zq08 : PySem.W.nsIn K mainGlobals "is_place_of_level" = some (some (.ref Cu)))
 (zq06 : K.lookup Cu = some ⟨Iu,Ir,.func (PySem.W.fnOf "is_place_of_level" "is_place_of_level" (Av Ba) (At Ba) (Af Ba) .none Iv Iw Ip Iy Dy Ix),Im⟩)
 (zq07 : PySem.W.codeIn K Dy "is_place_of_level" = true)
 (zq00 : PySem.W.keepIn K (.ref Cu) = true)
 (zq2z : PySem.W.nsIn K mainGlobals "is_prime" = some (some (.ref Md)))
 (zq2t : K.lookup Md = some ⟨X1,Xy,.func (PySem.W.fnOf "is_prime" "is_prime" (Av Ea) (At Ea) (Af Ea) .none Ye Yo Xp Yx Pp Yr),Xh⟩)
 (zq2w : PySem.W.codeIn K Pp "is_prime" = true)
 (zq2b : PySem.W.keepIn K (.ref Md) = true)
 (zq0q : PySem.W.findIn K (.ref C_Growth) "settled" = some (some (.ref Cp)))
 (zq0b : PySem.W.isFn K (.ref Cp) = true)
 (zq0k : K.lookup Cp = some ⟨L4,Lz,.func (PySem.W.fnOf "settled" "Growth.settled" (Av Bf) (At Bf) (Af Bf) .none L8 Mh Lq Mr Fk Mm),Li⟩)
 (zq0n : PySem.W.codeIn K Fk "Growth.settled" = true)
 (zq04 : PySem.W.keepIn K (.ref Cp) = true)
 (zq1d : PySem.W.findIn K (.ref C_Growth) "paper" = some (some (.ref Do)))
 (zq0y : PySem.W.isFn K (.ref Do) = true)
 (zq16 : K.lookup Do = some ⟨On,Oj,.func (PySem.W.fnOf "paper" "Growth.paper" (Av B6) (At B6) (Af B6) .none Ov Pe Oa Pz Hu Pi),N2⟩)
 (zq1a : PySem.W.codeIn K Hu "Growth.paper" = true)
 (zq0f : PySem.W.keepIn K (.ref Do) = true)
 (zq44 : PySem.W.nsIn K mainGlobals "_law_next" = some (some (.ref Uc)))
 (zq3r : K.lookup Uc = some ⟨Ae0,Ad4,.func (PySem.W.fnOf "_law_next" "_law_next" (Av Ib) (At Ib) (Af Ib) .none Ag5 Aj4 Ab1 Am6 Wk Ak2),y7⟩)
 (zq3y : PySem.W.codeIn K Wk "_law_next" = true)
 (zq33 : PySem.W.keepIn K (.ref Uc) = true)
 (zq26 : PySem.W.nsIn K mainGlobals "_law_shape_by" = some (some (.ref Ho)))
 (zq1y : K.lookup Ho = some ⟨Tq,Tm,.func (PySem.W.fnOf "_law_shape_by" "_law_shape_by" (Av B8) (At B8) (Af B8) .none Tz Ui Tc Ut K1 Uo),S1⟩)
 (zq22 : PySem.W.codeIn K K1 "_law_shape_by" = true)
 (zq12 : PySem.W.keepIn K (.ref Ho) = true)
 (zq4h : PySem.W.nsIn K mainGlobals "fits" = some (some (.ref Ai1)))
 (zq4d : K.lookup Ai1 = some ⟨Ay3,Ay1,.func (PySem.W.fnOf "fits" "fits" (Av N7) (At N7) (Af N7) .none Az1 A05 Aw4 A14 Al1 A08),Av5⟩)
 (zq4f : PySem.W.codeIn K Al1 "fits" = true)
 (zq4b : PySem.W.keepIn K (.ref Ai1) = true)
 (zq09 : PySem.W.findIn K (.ref C_Growth) "__init__" = some (some (.ref Cg)))
 (zq05 : PySem.W.isFn K (.ref Cg) = true)
 (zq0w : K.lookup Cg = some ⟨Go,Gn,.func (PySem.W.fnOf "__init__" "Growth.__init__" (Av Bs) (At Bs) (Af Bs) (.ref Dw) Gp Gq Gj Gs Dx Gr),Gi⟩)
 (zq0h : K.lookup Dw = some ⟨.type "tuple",E2,.seq #[.int 2 tk_Growth__init__0] Gh,E1⟩)
 (zq10 : PySem.W.codeIn K Dx "Growth.__init__" = true)
 (zq0x : PySem.W.keepIn K (.ref Cg) = true)
 (zq3n : PySem.W.nsIn K mainGlobals "_law_built" = some (some (.ref O8)))
 (zq3b : K.lookup O8 = some ⟨g5,d9,.func (PySem.W.fnOf "_law_built" "_law_built" (Av E9) (At E9) (Af E9) .none j6 m6 b7 u5 R6 o0),Z2⟩)
 (zq3h : PySem.W.codeIn K R6 "_law_built" = true)
 (zq2q : PySem.W.keepIn K (.ref O8) = true)
 (zq1u : PySem.W.nsIn K mainGlobals "_law_pairs_due" = some (some (.ref Ge)))
 (zq1h : K.lookup Ge = some ⟨Qz,Qu,.func (PySem.W.fnOf "_law_pairs_due" "_law_pairs_due" (Av By) (At By) (Af By) .none Q7 Rc Qk Rn Jf Ri),P9⟩)
 (zq1p : PySem.W.codeIn K Jf "_law_pairs_due" = true)
 (zq0t : PySem.W.keepIn K (.ref Ge) = true)
 (zq1w : PySem.W.findIn K (.ref C_Growth) "grow" = some (some (.ref D5)))
 (zq18 : PySem.W.isFn K (.ref D5) = true)
 (zq1j : K.lookup D5 = some ⟨Q1,Qw,.func (PySem.W.fnOf "grow" "Growth.grow" (Av B0) (At B0) (Af B0) .none Q9 Rf Qm Rp Jh Rk),Qb⟩)
 (zq1r : PySem.W.codeIn K Jh "Growth.grow" = true)
 (zq0v : PySem.W.keepIn K (.ref D5) = true)
 (zq4l : PySem.W.nsIn K mainGlobals "law" = some (some (.ref A01)))
 (zq4i : K.lookup A01 = some ⟨A46,A45,.func (PySem.W.fnOf "law" "law" (Av Qh) (At Qh) (Af Qh) .none At8 Au2 At1 Au4 Al0 Au3),A25⟩)
 (zq4k : PySem.W.codeIn K Al0 "law" = true)
 (zq4j : PySem.W.keepIn K (.ref A01) = true)
 (mk_Growth : PySem.W.makesIn K C_Growth = true)
 (kc_Growth : PySem.W.keepIn K (.ref C_Growth) = true)
 (pg_Growth : PySem.W.plainGet K C_Growth Str.empty = true)
 (hd_Growth : PySem.W.hasDictIn K C_Growth = true)
 (po_Growth : PySem.W.plainOver K C_Growth = true)
 (sa_Growth : PySem.W.findIn K (.ref C_Growth) "__setattr__" = some (some (.builtin "object.__setattr__")))
 (na_Growth_prime : PySem.W.findIn K (.ref C_Growth) "prime" = some none)
 (na_Growth_pieces : PySem.W.findIn K (.ref C_Growth) "pieces" = some none)
 (na_Growth_sheets : PySem.W.findIn K (.ref C_Growth) "sheets" = some none)
 (na_Growth_edges : PySem.W.findIn K (.ref C_Growth) "edges" = some none)
 (na_Growth_enders : PySem.W.findIn K (.ref C_Growth) "enders" = some none)
 (ac_FACE_COUNTS : PySem.W.nsIn K mainGlobals "FACE_COUNTS" = some (some (.ref fc_FACE_COUNTS)))
 (lc_FACE_COUNTS : K.lookup fc_FACE_COUNTS = some ⟨.type "tuple",none,.seq #[.int 0 tc_FACE_COUNTS_0,.int 2 tc_FACE_COUNTS_1,.int 3 tc_FACE_COUNTS_2,.int 4 tc_FACE_COUNTS_3] nc_FACE_COUNTS,slc_FACE_COUNTS⟩)
 (aq_MOST_PIECES : PySem.W.nsIn K mainGlobals "MOST_PIECES" = some (some (.int 40 t_MOST_PIECES)))
 (aq_PRIME_BOUND : PySem.W.nsIn K mainGlobals "PRIME_BOUND" = some (some (.int 98 t_PRIME_BOUND)))
 (z_isinstance : PySem.W.nsIn K mainGlobals "isinstance" = some none)
 (z_int : PySem.W.nsIn K mainGlobals "int" = some none)
 (z_bool : PySem.W.nsIn K mainGlobals "bool" = some none)
 (z_tuple : PySem.W.nsIn K mainGlobals "tuple" = some none)
 (z_zip : PySem.W.nsIn K mainGlobals "zip" = some none)
 (z_max : PySem.W.nsIn K mainGlobals "max" = some none)
 (z_len : PySem.W.nsIn K mainGlobals "len" = some none)
 (z_all : PySem.W.nsIn K mainGlobals "all" = some none)
 (z_range : PySem.W.nsIn K mainGlobals "range" = some none)
 (z_dict : PySem.W.nsIn K mainGlobals "dict" = some none)
 (z_enumerate : PySem.W.nsIn K mainGlobals "enumerate" = some none)
 (z_list : PySem.W.nsIn K mainGlobals "list" = some none) :
 ∃ fd : FuncData,(∀ (s : Shared) (v : Value),BindsTo s fd ⟨[v],[]⟩ [("_law_script",v)]) /\ ∀ base : Heap,K.In base -> base.Ns mainGlobals mg -> FnOk l.prog w K mg base CX0 6 fa fd ["_law_script"] (Y2 K) := by
 have e := hfa.symm.trans (PySem.W.mg_of X G zq4l)
 cases e
 have T : Txt K mg C_Growth := ⟨PySem.W.mg_of X G ac_Growth,⟨pg_Growth,hd_Growth,po_Growth,sa_Growth⟩,na_Growth_prime,na_Growth_pieces,na_Growth_sheets,na_Growth_edges,na_Growth_enders,⟨fc_FACE_COUNTS,PySem.W.mg_of X G ac_FACE_COUNTS,fun H => .inr ⟨_,_,_,lc_FACE_COUNTS,rfl,rfl,rfl,(by show (4 : Nat) <= sizeLine; decide),.cons ⟨_,rfl⟩ (.cons ⟨_,rfl⟩ (.cons ⟨_,rfl⟩ (.cons ⟨_,rfl⟩ (.nil))))⟩⟩,⟨_,PySem.W.mg_of X G aq_MOST_PIECES⟩,⟨_,PySem.W.mg_of X G aq_PRIME_BOUND⟩,PySem.W.mg_none_of X G z_isinstance,PySem.W.mg_none_of X G z_int,PySem.W.mg_none_of X G z_bool,PySem.W.mg_none_of X G z_tuple,PySem.W.mg_none_of X G z_zip,PySem.W.mg_none_of X G z_max,PySem.W.mg_none_of X G z_len,PySem.W.mg_none_of X G z_all,PySem.W.mg_none_of X G z_range,PySem.W.mg_none_of X G z_dict,PySem.W.mg_none_of X G z_enumerate,PySem.W.mg_none_of X G z_list⟩
 have Sl := A5 (st := D9) zq2s zq2v zq2a
 have Gu := A5 (st := Bj) zq0i zq0l zq02
 have Sk := A5 (st := D8) zq2r zq2u zq29
 have Lb := A5 (st := Cj) zq1g zq1o zq0s
 have Zl := A5 (st := Fs) zq3o zq3v zq30
 have An0 := A5 (st := Ln) zq47 zq48 zq3u
 have M5 := A5 (st := Cy) zq1x zq21 zq11
 have W2 := A5 (st := E4) zq36 zq3c zq2l
 have Jm := A5 (st := Bp) zq17 zq1b zq0g
 have W3 := A5 (st := E5) zq37 zq3d zq2m
 have P5 := A5 (st := Df) zq2e zq2h zq1m
 have W7 := A5 (st := E8) zq3a zq3g zq2p
 have W6 := A5 (st := E7) zq39 zq3f zq2o
 have Zn := A5 (st := Ia) zq3q zq3x zq32
 have M8 := A5 (st := Cz) zq20 zq24 zq14
 have P4 := A5 (st := De) zq2d zq2g zq1l
 have W5 := A5 (st := E6) zq38 zq3e zq2n
 have Zq := A5 (st := Fu) zq3t zq40 zq35
 have Gv := A5 (st := Bk) zq0j zq0m zq03
 have Au5 := A5 (st := Rs) zq4c zq4e zq4a
 have P3 := A5 (st := Dd) zq2c zq2f zq1k
 have La := A5 (st := Ci) zq1f zq1n zq0r
 have Zp := A5 (st := Ft) zq3s zq3z zq34
 have Zm := A5 (st := Hz) zq3p zq3w zq31
 have Jk := A5 (st := Bo) zq15 zq19 zq0e
 have M7 := A5 (st := B9) zq1z zq23 zq13
 have Ld := A5 (st := Bz) zq1i zq1q zq0u
 have Fn := A5 (st := Bh) zq0a zq0c zq01
 have Em := A5 (st := Ba) zq06 zq07 zq00
 have Sm := A5 (st := Ea) zq2t zq2w zq2b
 have Gw := A5 (st := Bf) zq0k zq0n zq04
 have Jl := A5 (st := B6) zq16 zq1a zq0f
 have Zo := A5 (st := Ib) zq3r zq3y zq33
 have M6 := A5 (st := B8) zq1y zq22 zq12
 have Au6 := A5 (st := N7) zq4d zq4f zq4b
 have C9 : FunD K "__init__" "Growth.__init__" Bs Cg _ [.int 2 tk_Growth__init__0] := ⟨⟨Go,Gn,Gp,Gq,Gj,Gs,Dx,Gr,Gi,Dw,Gh,E1,E2,rfl,zq0w,zq10,zq0h⟩,zq0x⟩
 have W8 := A5 (st := E9) zq3b zq3h zq2q
 have Lc := A5 (st := By) zq1h zq1p zq0t
 have Le := A5 (st := B0) zq1j zq1r zq0v
 have Bb2 := A5 (st := Qh) zq4i zq4k zq4j
 refine ⟨PySem.W.fnOf "law" "law" (Av Qh) (At Qh) (Af Qh) .none At8 Au2 At1 Au4 Al0 Au3,fun s v => .of_eq rfl,fun base _ _ => ?_⟩
 have L9 : Has l.prog w K mg base "is_whole" ["thing"] 1 (Fr K) := ⟨_,_,PySem.W.mg_of X G zq2y,zq2a,Sl.binds (ps := ["thing"]) (fun _ _ _ _ _ _ => V4 (fun _ => rfl)),Xu Sl T ⟩
 have Ds : Has l.prog w K mg base "shared_divisor" ["one","other"] 1 (Xc K) := ⟨_,_,PySem.W.mg_of X G zq0o,zq02,Gu.binds (ps := ["one","other"]) (fun _ _ _ _ _ _ => Hs (fun _ _ => rfl)),Lu Gu T ⟩
 have Ec : Has l.prog w K mg base "level_of" ["piece"] 1 (Bx K) := ⟨_,_,PySem.W.mg_of X G zq2x,zq29,Sk.binds (ps := ["piece"]) (fun _ _ _ _ _ _ => V4 (fun _ => rfl)),Xt Sk T ⟩
 have F9 : Has l.prog w K mg base "faces_agree" ["shape","faces"] 1 (Ew K) := ⟨_,_,PySem.W.mg_of X G zq1t,zq0s,Lb.binds (ps := ["shape","faces"]) (fun _ _ _ _ _ _ => Hs (fun _ _ => rfl)),Qo Lb T ⟩
 have Ij : Has l.prog w K mg base "add_at" ["chain","place","number"] 1 (Gz K) := ⟨_,_,PySem.W.mg_of X G zq41,zq30,Zl.binds (ps := ["chain","place","number"]) (fun _ _ _ _ _ _ => Nb (fun _ _ _ => rfl)),Ac3 Zl T ⟩
 have T3 : Has l.prog w K mg base "times" ["number","chain"] 1 (Su K) := ⟨_,_,PySem.W.mg_of X G zq49,zq3u,An0.binds (ps := ["number","chain"]) (fun _ _ _ _ _ _ => Hs (fun _ _ => rfl)),Ap5 An0 T ⟩
 have Hh : Has l.prog w K mg base "check_size" ["pieces"] 1 (Sv K) := ⟨_,_,PySem.W.mg_of X G zq25,zq11,M5.binds (ps := ["pieces"]) (fun _ _ _ _ _ _ => V4 (fun _ => rfl)),Th M5 T ⟩
 have Ej : Has l.prog w K mg base "counted" ["chain","prime"] 1 (Hy K) := ⟨_,_,PySem.W.mg_of X G zq3i,zq2l,W2.binds (ps := ["chain","prime"]) (fun _ _ _ _ _ _ => Hs (fun _ _ => rfl)),c5 W2 T ⟩
 have C6 : HasM l.prog w K mg base C_Growth "pairs" ["self"] 1 (Ny K C_Growth) := ⟨_,_,⟨zq1e,zq0z,zq0g⟩,Jm.binds (ps := ["self"]) (fun _ _ _ _ _ _ => V4 (fun _ => rfl)),Oh Jm T ⟩
 have Bn : Has l.prog w K mg base "_law_whole" ["_law_found"] 1 (D7 K) := ⟨_,_,PySem.W.mg_of X G zq3j,zq2m,W3.binds (ps := ["_law_found"]) (fun _ _ _ _ _ _ => V4 (fun _ => rfl)),c6 W3 T ⟩
 have Gb : Has l.prog w K mg base "_law_cell_at" ["_law_script","_law_k"] 1 (G6 K) := ⟨_,_,PySem.W.mg_of X G zq2k,zq1m,P5.binds (ps := ["_law_script","_law_k"]) (fun _ _ _ _ _ _ => Hs (fun _ _ => rfl)),Vh P5 T ⟩
 have Cf : Has l.prog w K mg base "_law_level" ["_law_piece"] 1 (Bx K) := ⟨_,_,PySem.W.mg_of X G zq3m,zq2p,W7.binds (ps := ["_law_piece"]) (fun _ _ _ _ _ _ => V4 (fun _ => rfl)),c9 W7 T ⟩
 have Ff : Has l.prog w K mg base "_law_meets" ["_law_pieces","_law_faces","_law_face"] 1 (J9 K) := ⟨_,_,PySem.W.mg_of X G zq3l,zq2o,W6.binds (ps := ["_law_pieces","_law_faces","_law_face"]) (fun _ _ _ _ _ _ => Nb (fun _ _ _ => rfl)),c8 W6 T ⟩
 have Ga : Has l.prog w K mg base "_law_pick" ["_law_cell","_law_j","_law_many"] 1 (Ka K) := ⟨_,_,PySem.W.mg_of X G zq43,zq32,Zn.binds (ps := ["_law_cell","_law_j","_law_many"]) (fun _ _ _ _ _ _ => Nb (fun _ _ _ => rfl)),Ac5 Zn T ⟩
 have C4 : Has l.prog w K mg base "_law_faces_by" ["_law_word","_law_family"] 1 (D0 K) := ⟨_,_,PySem.W.mg_of X G zq28,zq14,M8.binds (ps := ["_law_word","_law_family"]) (fun _ _ _ _ _ _ => Hs (fun _ _ => rfl)),Tk M8 T ⟩
 have Jw : Has l.prog w K mg base "_law_word_by" ["_law_cell","_law_family","_law_letters"] 1 (G5 K) := ⟨_,_,PySem.W.mg_of X G zq2j,zq1l,P4.binds (ps := ["_law_cell","_law_family","_law_letters"]) (fun _ _ _ _ _ _ => Nb (fun _ _ _ => rfl)),Vg P4 T ⟩
 have Oz : Has l.prog w K mg base "_law_prime" ["_law_cell"] 1 (Jo K) := ⟨_,_,PySem.W.mg_of X G zq3k,zq2n,W5.binds (ps := ["_law_cell"]) (fun _ _ _ _ _ _ => V4 (fun _ => rfl)),c7 W5 T ⟩
 have T6 : Has l.prog w K mg base "_law_edge" ["_law_pieces","_law_paper","_law_prime_here"] 1 (Sy K) := ⟨_,_,PySem.W.mg_of X G zq46,zq35,Zq.binds (ps := ["_law_pieces","_law_paper","_law_prime_here"]) (fun _ _ _ _ _ _ => Nb (fun _ _ _ => rfl)),Ac8 Zq T ⟩
 have A3 : Has l.prog w K mg base "is_whole_below" ["thing","bound"] 2 (Br K) := ⟨_,_,PySem.W.mg_of X G zq0p,zq03,Gv.binds (ps := ["thing","bound"]) (fun _ _ _ _ _ _ => Hs (fun _ _ => rfl)),Lv Gv T L9⟩
 have Zg : Has l.prog w K mg base "plus" ["one","other"] 2 (Xb K) := ⟨_,_,PySem.W.mg_of X G zq4g,zq4a,Au5.binds (ps := ["one","other"]) (fun _ _ _ _ _ _ => Hs (fun _ _ => rfl)),Ax6 Au5 T Ij⟩
 have Jv : Has l.prog w K mg base "add_faces" ["chain","faces","number"] 2 (Gy K) := ⟨_,_,PySem.W.mg_of X G zq2i,zq1k,P3.binds (ps := ["chain","faces","number"]) (fun _ _ _ _ _ _ => Nb (fun _ _ _ => rfl)),Vf P3 T Ij⟩
 have F8 : Has l.prog w K mg base "turned_over" ["number","prime"] 2 (Sw K) := ⟨_,_,PySem.W.mg_of X G zq1s,zq0r,La.binds (ps := ["number","prime"]) (fun _ _ _ _ _ _ => Hs (fun _ _ => rfl)),Qn La T Ds⟩
 have Nk : Has l.prog w K mg base "_law_fits" ["_law_pieces","_law_thing"] 2 (Nt K) := ⟨_,_,PySem.W.mg_of X G zq45,zq34,Zp.binds (ps := ["_law_pieces","_law_thing"]) (fun _ _ _ _ _ _ => Hs (fun _ _ => rfl)),Ac7 Zp T Cf Ff Bn⟩
 have T4 : Has l.prog w K mg base "_law_side" ["_law_pieces","_law_cell"] 2 (Nv K) := ⟨_,_,PySem.W.mg_of X G zq42,zq31,Zm.binds (ps := ["_law_pieces","_law_cell"]) (fun _ _ _ _ _ _ => Hs (fun _ _ => rfl)),Ac4 Zm T Ga⟩
 have Ey : Has l.prog w K mg base "_law_words_with" ["_law_words","_law_word","_law_family"] 2 (Ed K) := ⟨_,_,PySem.W.mg_of X G zq1c,zq0e,Jk.binds (ps := ["_law_words","_law_word","_law_family"]) (fun _ _ _ _ _ _ => Nb (fun _ _ _ => rfl)),Of Jk T C4⟩
 have Hj : Has l.prog w K mg base "_law_is_paper" ["_law_pieces","_law_paper","_law_place","_law_prime_here"] 2 (Jp K) := ⟨_,_,PySem.W.mg_of X G zq27,zq13,M7.binds (ps := ["_law_pieces","_law_paper","_law_place","_law_prime_here"]) (fun _ _ _ _ _ _ => Ba7 (fun _ _ _ _ => rfl)),Tj M7 T Cf Bn⟩
 have D4 : Has l.prog w K mg base "_law_are_pairs" ["_law_found","_law_due"] 2 (Gx K) := ⟨_,_,PySem.W.mg_of X G zq1v,zq0u,Ld.binds (ps := ["_law_found","_law_due"]) (fun _ _ _ _ _ _ => Hs (fun _ _ => rfl)),Qq Ld T Bn⟩
 have Di : Has l.prog w K mg base "_law_answers_right" ["_law_answers","_law_due"] 2 (Nq K) := ⟨_,_,PySem.W.mg_of X G zq0d,zq01,Fn.binds (ps := ["_law_answers","_law_due"]) (fun _ _ _ _ _ _ => Hs (fun _ _ => rfl)),Kl Fn T Bn⟩
 have Cs : Has l.prog w K mg base "is_place_of_level" ["shape","thing","level"] 3 (Ck K) := ⟨_,_,PySem.W.mg_of X G zq08,zq00,Em.binds (ps := ["shape","thing","level"]) (fun _ _ _ _ _ _ => Nb (fun _ _ _ => rfl)),Iq Em T A3 Ec⟩
 have Ii : Has l.prog w K mg base "is_prime" ["thing"] 3 (Nr K) := ⟨_,_,PySem.W.mg_of X G zq2z,zq2b,Sm.binds (ps := ["thing"]) (fun _ _ _ _ _ _ => V4 (fun _ => rfl)),Xv Sm T A3⟩
 have Dh : HasM l.prog w K mg base C_Growth "settled" ["self","sheet","edge"] 3 (G7 K C_Growth) := ⟨_,_,⟨zq0q,zq0b,zq04⟩,Gw.binds (ps := ["self","sheet","edge"]) (fun _ _ _ _ _ _ => Nb (fun _ _ _ => rfl)),Lw Gw T Ej F8 Zg T3⟩
 have Ei : HasM l.prog w K mg base C_Growth "paper" ["self","place"] 3 (Nx K C_Growth) := ⟨_,_,⟨zq1d,zq0y,zq0f⟩,Jl.binds (ps := ["self","place"]) (fun _ _ _ _ _ _ => Hs (fun _ _ => rfl)),Og Jl T A3⟩
 have T5 : Has l.prog w K mg base "_law_next" ["_law_pieces","_law_cell"] 3 (Nw K) := ⟨_,_,PySem.W.mg_of X G zq44,zq33,Zo.binds (ps := ["_law_pieces","_law_cell"]) (fun _ _ _ _ _ _ => Hs (fun _ _ => rfl)),Ac6 Zo T T4 Ff Ga Cf⟩
 have Hi : Has l.prog w K mg base "_law_shape_by" ["_law_kind","_law_cells","_law_most"] 3 (Jn K) := ⟨_,_,PySem.W.mg_of X G zq26,zq12,M6.binds (ps := ["_law_kind","_law_cells","_law_most"]) (fun _ _ _ _ _ _ => Nb (fun _ _ _ => rfl)),Ti M6 T Ey Jw C4⟩
 have Ah3 : Has l.prog w K mg base "fits" ["shape","thing"] 4 (Sx K) := ⟨_,_,PySem.W.mg_of X G zq4h,zq4b,Au6.binds (ps := ["shape","thing"]) (fun _ _ _ _ _ _ => Hs (fun _ _ => rfl)),Ax7 Au6 T Ec F9 Cs⟩
 have hcd_Growth : A16 l.prog w K mg base C_Growth ["self","prime"] [.int 2] 4 (Kb K C_Growth) := ⟨_,_,[.int 2 tk_Growth__init__0],⟨mk_Growth,zq09,zq05,kc_Growth⟩,C9.binds (ps := ["self","prime"]) (dd := [.int 2 tk_Growth__init__0]) (fun _ _ _ _ _ _ _ us hl => by obtain ⟨x,rfl⟩ : ∃ x,us = [x] := List.length_eq_one_iff.mp (by simpa using hl); exact ⟨_,rfl,rfl⟩),.cons ⟨_,rfl⟩ (.nil),Gm C9 T Ii⟩
 have hc_Growth : HasC l.prog w K mg base C_Growth ["self","prime"] 4 (Kb K C_Growth) := ⟨_,_,⟨mk_Growth,zq09,zq05,kc_Growth⟩,C9.binds (ps := ["self","prime"]) (dd := []) (fun _ _ _ _ _ _ _ us hl => by obtain ⟨x,y,rfl⟩ : ∃ x y,us = [x,y] := A62 (by simpa using hl); exact ⟨_,rfl,rfl⟩),Gm C9 T Ii⟩
 have O0 : Has l.prog w K mg base "_law_built" ["_law_kind","_law_cells","_law_most"] 4 (Nu K) := ⟨_,_,PySem.W.mg_of X G zq3n,zq2q,W8.binds (ps := ["_law_kind","_law_cells","_law_most"]) (fun _ _ _ _ _ _ => Nb (fun _ _ _ => rfl)),d3 W8 T Hi Nk T5⟩
 have D3 : Has l.prog w K mg base "_law_pairs_due" ["_law_growth","_law_pieces","_law_prime_here"] 4 (Xe K C_Growth) := ⟨_,_,PySem.W.mg_of X G zq1u,zq0t,Lc.binds (ps := ["_law_growth","_law_pieces","_law_prime_here"]) (fun _ _ _ _ _ _ => Nb (fun _ _ _ => rfl)),Qp Lc T Ei Hj T6⟩
 have Ex : HasM l.prog w K mg base C_Growth "grow" ["self","thing"] 5 (Nz K C_Growth) := ⟨_,_,⟨zq1w,zq18,zq0v⟩,Le.binds (ps := ["self","thing"]) (fun _ _ _ _ _ _ => Hs (fun _ _ => rfl)),Qr Le T Hh Jv Dh Ah3 Ej⟩
 exact A44 Bb2 T Oz O0 hcd_Growth hc_Growth D3 C6 D4 Gb Ex Di
theorem walk {l : PySem.W.OpenLaw} {q : Program} {loose : List Str} {XP : (Str -> Option Value) -> Heap -> Prop} {YP : World -> Heap -> Prop} {d : DefRec} {K : Params -> PySem.W.Frag} (hn : l.most = some 63) (hdf : d.params.defaults = [])
 (hY : ∀ (w : World) (h : Heap),YP w h -> (K w.params).In h)
 (F : ∀ (w : World) (mg : Str -> Option Value) (fa : Addr) (h : Heap),(K w.params).In h -> h.Ns mainGlobals mg -> mg d.name = some (.ref fa) →
   ∃ fd : FuncData,(∀ (s : Shared) (u : Value),BindsTo s fd ⟨[u],[]⟩ [("_law_script",u)]) /\ ∀ base : Heap,(K w.params).In base -> base.Ns mainGlobals mg -> FnOk l.prog w (K w.params) mg base CX0 6 fa fd ["_law_script"] (Y2 (K w.params))) :
 PySem.W.WalkO q loose XP YP l.row.toRowW d [] (fun f vs => PySem.call f vs) :=
 L2.walk_of (n := 63) (k := 6) (x := "_law_script") (CX := fun _ => CX0) (sp := fun w => Y2 (K w.params)) hn (by decide) hdf ⟨rfl,by decide,by decide,rfl⟩ hY F (fun _ _ a ns hl _ hS => ⟨a,ns,rfl,hS,hl,fun _ => rfl⟩) fun _ _ _ _ _ z => z
end Hb
namespace PySem.W.Fast
def tw14042661893660088408:=0
def tw4255324318681126342:=0
def tw6419517596463996086:=0
def tw3516863583651998852:=0
def tw14317397216400516723:=0
def tw10322561871612550276:=0
def tw11026715794820140318:=0
def tw12066838782388109170:=0
def tw3423804980944880245:=0
def tw13201522224100634902:=0
def tw12475479681931226416:=0
def tw3943689560987817539:=0
def tw2308048212157094333:=0
def tw10198896119691728559:=0
def tw15930964488505629618:=0
def tw8558549465618854896:=0
def tw11011229783818914831:=0
def tw11405555897081014700:=0
def tw2172255439208079:=0
def tw12749821606241730474:=0
def tw7508751056993062494:=0
def tw4298317994407721257:=0
def tw3787878823024510057:=0
def tw14526413401572141783:=0
def tw16275310615865317433:=0
def tw8485146580804579472:=0
def tw14756503768273510856:=0
def tw5346529798667915905:=0
def tw9759298588116359050:=0
def tw6598024227791721352:=0
def tw5925500884282913916:=0
def tw17260563129017771878:=0
def tw16194625596333120041:=0
def tw1282146253093936244:=0
def tw11459610590708015647:=0
def tw14657980386172586058:=0
def tw14377377398768720674:=0
def tw3199441834042617529:=0
def tw10214825033300967574:=0
def tw9167336028741383325:=0
def tw12524637885146405563:=0
def tw6045181458556324100:=0
def tw2194576639750741376:=0
def tw13655059869892028559:=0
def tw6736336541610213846:=0
def tw8518380349208491462:=0
def tw17990927102239345774:=0
def tw13980117295113856995:=0
def tw15543439058602502183:=0
def tw5222015371008679131:=0
def tw4862543327442881343:=0
def tw6463291773182525850:=0
def tw16801861832306197968:=0
def tw5627318581974091713:=0
def tw607988746875926872:=0
def tw9263152491769561437:=0
def tw6408031724264554737:=0
def tw5181995513413563679:=0
def tw8892083286753806562:=0
def tw7448259135661354614:=0
def tw9592632150121828703:=0
def tw14070604523418003575:=0
def tw1959959465412160194:=0
def tw14071361613353469297:=0
def tw3467769170057407091:=0
def tw1594080894726774540:=0
def tw9574254102477383567:=0
def tw11296376650421276407:=0
def tw15751030328104654007:=0
def tw8951445793497062637:=0
def tw3554941151204286885:=0
def tw5373732416974793749:=0
def tw4952490469897506502:=0
def tw421951122575896705:=0
def tw3777218470230759584:=0
def tw16747077220981987006:=0
def tw16464675536829377598:=0
def tw13461683636103525135:=0
def tw11702113406404347154:=0
def tw10886240966425651512:=0
def tw1903851683785219957:=0
def tw10771743815268205874:=0
def tw6444193804938516408:=0
def tw5716038113897304454:=0
def tw9392700935429817615:=0
def tw5630896916170443421:=0
def tw15069622978431944905:=0
def tw7887843172053090110:=0
def tw10945015726322689990:=0
def tw17905670046261691037:=0
def tw12774631660519206127:=0
def tw10630140351275477616:=0
def tw15077935105479233710:=0
def tw1810622418212618622:=0
def tw16751066066565915531:=0
def tw14676685268873952646:=0
def tw6397886481248116415:=0
def tw15481384552365194694:=0
def tw4310279947028835054:=0
def tw2288604507612748267:=0
def tw10147121790006273435:=0
def tw14005242102834981360:=0
def tw17477693798484445096:=0
def tw624949682603517629:=0
def tw9088243874943243147:=0
def tw1920181770872179861:=0
def tw4594474262937023053:=0
def tw380799263223145880:=0
def tw8182091623891719898:=0
def tw16000002032187216848:=0
def tw5918956849898803751:=0
def tw9993218010181972248:=0
def tw10019318541986958390:=0
def tw1058268691789989502:=0
def tw14988994173838691035:=0
def tw15450291082286300945:=0
def tw15632377948987636114:=0
def tw8836784091494460132:=0
def tw17707542525239245989:=0
def tw13412452064016067924:=0
def tw9502326856906774043:=0
def tw13416047373651180839:=0
def tw14304442127728516083:=0
def tw111730893509239041:=0
def tw12835463639530591682:=0
def tw2525517673635836632:=0
def tw13972349112749614227:=0
def tw13845389672113352135:=0
def tw9351082679785176872:=0
def tw271306870506885268:=0
def tw13113962173926087392:=0
def tw17135023850508410062:=0
def tw12567867146791211488:=0
def tw13164534881211773302:=0
def tw10609949434955956110:=0
def tw10305846467200418909:=0
def tw14981169735323003800:=0
def tw18168127393966607748:=0
def tw498393083575099086:=0
def tw15138292505567608646:=0
def tw15793309570449336716:=0
def tw12256837598854991347:=0
def tw6437209081157375014:=0
def tw14980679808459556312:=0
def tw352408070205478807:=0
def tw6634900004954753277:=0
def tw3875550770711046367:=0
def tw11678427922037119763:=0
def tw4398423419484661458:=0
def tw12633292719764823206:=0
def tw13179680217554665747:=0
def tw5412094638393387403:=0
def tw377079202953050990:=0
def tw2476514944025100804:=0
def tw2392364779639546248:=0
def tw12471809487137943393:=0
def tw13540141344426468334:=0
def tw2443693978546483863:=0
def tw16695824545302627953:=0
def tw5475153943162857781:=0
def tw3537555965486941275:=0
def tw3728476760838531608:=0
def tw4409490205957802149:=0
def tw571019841668867628:=0
def tw4275823300426554054:=0
def tw3109457663561599463:=0
def tw239131328154054431:=0
def tw1810565316294030585:=0
def tw4771780382217962219:=0
def tw2448478601108855421:=0
def tw11016081364299923476:=0
def tw70166316469368059:=0
def tw16577097552311031808:=0
def tw18214761584846669565:=0
def tw3811200132903814371:=0
def tw8194787769888911952:=0
def tw10934367431789272642:=0
def tw6731658090616363765:=0
def tw6879657011705056029:=0
def tw648717029351899814:=0
def tw11228309336162568698:=0
def tw17076437274487759033:=0
def tw11485660512820377290:=0
def tw18279312656773489372:=0
def tw8949632873877135635:=0
def tw18150422662360009529:=0
def tw973623947444022109:=0
def tw13685615417749203755:=0
def tw3414514784020716752:=0
def tw15300542086682972154:=0
def tw12617124601751952594:=0
def tw14932748410680443164:=0
def tw2793539385030187605:=0
def tw1261741203301000692:=0
def tw14318800498908383651:=0
def tw10962008016134491559:=0
def tw732471353828086643:=0
def tw10952166986997407189:=0
def tw15219845993341503258:=0
def tw7382779177958071629:=0
def tw13354470751238398949:=0
def tw2847019748216715561:=0
def tw3759910344822894530:=0
def tw8708715588083282996:=0
def tw10250295435657434174:=0
def tw15180651840367743292:=0
def tw1047637662769754816:=0
def tw17582727330039808279:=0
def tw5662297034974781411:=0
def tw561590274065920523:=0
def tw14299274554517427582:=0
def tw11268995933731496579:=0
def tw12985358639663376462:=0
def tw4919986378238128850:=0
def tw9927747457296936395:=0
def tw8751439250458304816:=0
def tw7561354572428222120:=0
def tw12321923215177364205:=0
def tw17336258265873662369:=0
def tw642994325729968452:=0
def tw14451296548576846808:=0
def tw10150443616432325689:=0
def tw360241067292969199:=0
def tw9390069871573046441:=0
def tw2416728349092202086:=0
def tw1487656665468029750:=0
def tw9524469621526913778:=0
def tw18101338918263347421:=0
def tw16976936517748597383:=0
def tw511606303381531791:=0
def tw15492172915956866249:=0
def tw12297566133221737048:=0
def tw15589835549109044334:=0
def tw4983671053675618404:=0
def tw11549234837084367289:=0
def tw3123533231425324692:=0
def tw15999821940188193345:=0
def tw7060230119702405266:=0
def tw9781500453992885734:=0
def tw5930225741350422299:=0
def tw124491918006480837:=0
def tw5751260779686672068:=0
def tw4132463928013531044:=0
def tw17656842751922031982:=0
def tw12532871528851970456:=0
def tw10444060518523951410:=0
def tw796614270721803032:=0
def tw9393106777071509320:=0
def tw8293469486493506105:=0
def tw14302036182928972807:=0
def tw18213891786120258472:=0
def tw16886968825815060163:=0
def tw11945210048888644132:=0
def tw12555571909803479167:=0
def tw6185350571559367767:=0
def tw4518223190102909479:=0
def tw5371763497330199939:=0
def tw6788657726578814402:=0
def tw10314858719717180569:=0
def tw13854755111231928336:=0
def tw16056959805544268967:=0
def tw12579937401056830448:=0
def tw5336822411615504218:=0
def tw11261419641071574508:=0
def tw7671838389883307655:=0
def tw8472275011679633294:=0
def tw10067080931794739890:=0
def tw17190665093891283444:=0
def tw17189447088143548623:=0
def tw16755786982787863752:=0
def tw9621124123356090975:=0
def tw15919713358870343461:=0
def tw8016720374337798:=0
def tw16889952073626558249:=0
def tw6009009020930707801:=0
def tw8755695853846669486:=0
def tw12587361620564414766:=0
def tw2282571917645247052:=0
def tw555722426877968347:=0
def tw11559682982528306629:=0
def tw8567418583221624807:=0
def tw10006349239531650068:=0
def tw12523189026911537164:=0
def tw6372089733944698987:=0
def tw2311850219186702564:=0
def tw1161768642324990423:=0
def tw1570672951938635442:=0
def tw14127207663305741556:=0
def tw16709170495819401977:=0
def tw2732614218552475850:=0
def tw17482981937721816102:=0
def tw5402633630151872331:=0
def tw13050418028773807410:=0
def tw12119706770561232223:=0
def tw1687978745376199390:=0
def tw16020931271432938188:=0
def tw10678102402889167424:=0
def tw12688243786339414088:=0
def tw16570275179975262683:=0
def tw9765192442448336372:=0
def tw15518277491558454397:=0
def tw8897518043774901250:=0
def tw10186812679802017323:=0
def tw4037475981549127849:=0
def tw10832984491563498472:=0
def tw14697819786416281779:=0
def tw15994134671453874849:=0
def tw11415512789828421766:=0
def tw4632525149367836856:=0
def tw844275717017543399:=0
def tw12644381013402506048:=0
def tw2598596511784635421:=0
def tw10223565756719569166:=0
def tw3353331973093100591:=0
def tw16400295448422928799:=0
def tw10357343434384742059:=0
def tw10204344802324617633:=0
def tw13679339643756350545:=0
def tw13708034556984930010:=0
def tw4806503494540244346:=0
def tw5058537587535061170:=0
def tw1607872498859785735:=0
def tw18316958033133309744:=0
def tw4375869092674383538:=0
def tw18070738002398445470:=0
def tw8214936618207381902:=0
def tw2742461204956729613:=0
def tw6883840291794653439:=0
def tw9121130473290903553:=0
def tw8143816865168444350:=0
def tw15310311834721708053:=0
def tw15868969252023241021:=0
def tw8273512455654762513:=0
def tw1870487069240601952:=0
def tw28272293313081733:=0
def tw3311519703356768614:=0
def tw13693597095546924063:=0
def tw5697613977101888300:=0
def tw13903353961542117243:=0
def tw4455508137780431174:=0
def tw16547911633254282781:=0
def tw6759085282807565406:=0
def tw12373662811816005515:=0
def tw15594607071241662854:=0
def tw14068143112593495868:=0
def tw502012660484683634:=0
def tw989202884515030619:=0
def tw391847200515060836:=0
def tw16972107849356201721:=0
def tw15910170393467180247:=0
def tw15080431537655664164:=0
def tw17249086794401620229:=0
def tw15295669692720726327:=0
def tw16330754655550885805:=0
def tw11592476335385282587:=0
def tw17245417959833921505:=0
def tw10868385878620168926:=0
def tw3660376746096596762:=0
def tw4284683988937292918:=0
def tw13573097853792157143:=0
def tw8556138244515226526:=0
def tw11509233252336289302:=0
def tw1235478518660473653:=0
def tw9662264672275710203:=0
def tw4119433630866552265:=0
def tw14354355115733095384:=0
def tw10337888773669110765:=0
def tw6312790441747279239:=0
def tw16235195817904160861:=0
def tw9354996285363686512:=0
def tw15285376254991770175:=0
def tw12990440450945610719:=0
def tw13222365859631099573:=0
def tw6311052696085757793:=0
def tw6632404423391557617:=0
def tw114107594692095334:=0
def tw11051255771924901522:=0
def tw909262546367148699:=0
def tw10641876523084283687:=0
def tw6075551084432787003:=0
def tw522825976101177727:=0
def tw12050944615118024998:=0
def tw11328117849951691164:=0
def tw5227572043314195759:=0
def tw14157150183099681708:=0
def tw15940469921744021092:=0
def tw745336580679597907:=0
def tw8674220614271072147:=0
def tw10370720064700790616:=0
def tw17306514050568870828:=0
def tw3500332160021216055:=0
def tw5897476235374981749:=0
def tw5303822803168481647:=0
def tw17948299084338464399:=0
def tw15851802615970860483:=0
def tw11569687394900991709:=0
def tw15525723207332405206:=0
def tw8162717840603369403:=0
def tw14014913262471798438:=0
def tw9799968859187247336:=0
def tw1333486577730718872:=0
def tw3405533531723117884:=0
def tw2008901058833732205:=0
def tw8046005466078221267:=0
def tw9171097806125161241:=0
def tw18117212778852411081:=0
def tw1137752207964214630:=0
def tw16112512226079075391:=0
def tw13977583506312751043:=0
def tw10780966880578415430:=0
def tw14244618168781803666:=0
def tw7700066550264947256:=0
def tw14067985920210776694:=0
def tw8866131704801841100:=0
def tw10914140702040299880:=0
def tw17634279452423100527:=0
end PySem.W.Fast
open PySem PySem.W PyProof.Rows
set_option maxRecDepth 100000 in
set_option maxHeartbeats 0 in
theorem PySem.Challenge.cw_holebook_k55_papers_force_the_pairs_holds : PySem.Challenge.rw_holebook_k55_papers_force_the_pairs.Holds := by
 w_on; o_law; k_head; (case hw => w_witness2)
 k_fill
 refine Hb.walk (l := PySem.Challenge.rw_holebook_k55_papers_force_the_pairs) rfl rfl (fun w h Y => PySem.W.kIn_of Y) ?F
 case F =>
  intro w mg fa h KX G hmg
  refine' Hb.all_mk KX G hmg ?ac_Growth ?zq2y ?zq2s ?zq2v ?zq2a ?zq0o ?zq0i ?zq0l ?zq02 ?zq2x ?zq2r ?zq2u ?zq29 ?zq1t ?zq1g ?zq1o ?zq0s ?zq41 ?zq3o ?zq3v ?zq30 ?zq49 ?zq47 ?zq48 ?zq3u ?zq25 ?zq1x ?zq21 ?zq11 ?zq3i ?zq36 ?zq3c ?zq2l ?zq1e ?zq0z ?zq17 ?zq1b ?zq0g ?zq3j ?zq37 ?zq3d ?zq2m ?zq2k ?zq2e ?zq2h ?zq1m ?zq3m ?zq3a ?zq3g ?zq2p ?zq3l ?zq39 ?zq3f ?zq2o ?zq43 ?zq3q ?zq3x ?zq32 ?zq28 ?zq20 ?zq24 ?zq14 ?zq2j ?zq2d ?zq2g ?zq1l ?zq3k ?zq38 ?zq3e ?zq2n ?zq46 ?zq3t ?zq40 ?zq35 ?zq0p ?zq0j ?zq0m ?zq03 ?zq4g ?zq4c ?zq4e ?zq4a ?zq2i ?zq2c ?zq2f ?zq1k ?zq1s ?zq1f ?zq1n ?zq0r ?zq45 ?zq3s ?zq3z ?zq34 ?zq42 ?zq3p ?zq3w ?zq31 ?zq1c ?zq15 ?zq19 ?zq0e ?zq27 ?zq1z ?zq23 ?zq13 ?zq1v ?zq1i ?zq1q ?zq0u ?zq0d ?zq0a ?zq0c ?zq01 ?zq08 ?zq06 ?zq07 ?zq00 ?zq2z ?zq2t ?zq2w ?zq2b ?zq0q ?zq0b ?zq0k ?zq0n ?zq04 ?zq1d ?zq0y ?zq16 ?zq1a ?zq0f ?zq44 ?zq3r ?zq3y ?zq33 ?zq26 ?zq1y ?zq22 ?zq12 ?zq4h ?zq4d ?zq4f ?zq4b ?zq09 ?zq05 ?zq0w ?zq0h ?zq10 ?zq0x ?zq3n ?zq3b ?zq3h ?zq2q ?zq1u ?zq1h ?zq1p ?zq0t ?zq1w ?zq18 ?zq1j ?zq1r ?zq0v ?zq4l ?zq4i ?zq4k ?zq4j ?mk_Growth ?kc_Growth ?pg_Growth ?hd_Growth ?po_Growth ?sa_Growth ?na_Growth_prime ?na_Growth_pieces ?na_Growth_sheets ?na_Growth_edges ?na_Growth_enders ?ac_FACE_COUNTS ?lc_FACE_COUNTS ?aq_MOST_PIECES ?aq_PRIME_BOUND ?z_isinstance ?z_int ?z_bool ?z_tuple ?z_zip ?z_max ?z_len ?z_all ?z_range ?z_dict ?z_enumerate ?z_list
  (case ac_Growth => k_is); (case ac_FACE_COUNTS => k_is); (case zq2y => k_is); (case zq2s => k_is)
  (case zq2v => k_is); (case zq2a => k_is); (case zq0o => k_is); (case zq0i => k_is)
  (case zq0l => k_is); (case zq02 => k_is); (case zq2x => k_is); (case zq2r => k_is)
  (case zq2u => k_is); (case zq29 => k_is); (case zq1t => k_is); (case zq1g => k_is)
  (case zq1o => k_is); (case zq0s => k_is); (case zq41 => k_is); (case zq3o => k_is)
  (case zq3v => k_is); (case zq30 => k_is); (case zq49 => k_is); (case zq47 => k_is)
  (case zq48 => k_is); (case zq3u => k_is); (case zq25 => k_is); (case zq1x => k_is)
  (case zq21 => k_is); (case zq11 => k_is); (case zq3i => k_is); (case zq36 => k_is)
  (case zq3c => k_is); (case zq2l => k_is); (case zq1e => k_is); (case zq0z => k_is)
  (case zq17 => k_is); (case zq1b => k_is); (case zq0g => k_is); (case zq3j => k_is)
  (case zq37 => k_is); (case zq3d => k_is); (case zq2m => k_is); (case zq2k => k_is)
  (case zq2e => k_is); (case zq2h => k_is); (case zq1m => k_is); (case zq3m => k_is)
  (case zq3a => k_is); (case zq3g => k_is); (case zq2p => k_is); (case zq3l => k_is)
  (case zq39 => k_is); (case zq3f => k_is); (case zq2o => k_is); (case zq43 => k_is)
  (case zq3q => k_is); (case zq3x => k_is); (case zq32 => k_is); (case zq28 => k_is)
  (case zq20 => k_is); (case zq24 => k_is); (case zq14 => k_is); (case zq2j => k_is)
  (case zq2d => k_is); (case zq2g => k_is); (case zq1l => k_is); (case zq3k => k_is)
  (case zq38 => k_is); (case zq3e => k_is); (case zq2n => k_is); (case zq46 => k_is)
  (case zq3t => k_is); (case zq40 => k_is); (case zq35 => k_is); (case zq0p => k_is)
  (case zq0j => k_is); (case zq0m => k_is); (case zq03 => k_is); (case zq4g => k_is)
  (case zq4c => k_is); (case zq4e => k_is); (case zq4a => k_is); (case zq2i => k_is)
  (case zq2c => k_is); (case zq2f => k_is); (case zq1k => k_is); (case zq1s => k_is)
  (case zq1f => k_is); (case zq1n => k_is); (case zq0r => k_is); (case zq45 => k_is)
  (case zq3s => k_is); (case zq3z => k_is); (case zq34 => k_is); (case zq42 => k_is)
  (case zq3p => k_is); (case zq3w => k_is); (case zq31 => k_is); (case zq1c => k_is)
  (case zq15 => k_is); (case zq19 => k_is); (case zq0e => k_is); (case zq27 => k_is)
  (case zq1z => k_is); (case zq23 => k_is); (case zq13 => k_is); (case zq1v => k_is)
  (case zq1i => k_is); (case zq1q => k_is); (case zq0u => k_is); (case zq0d => k_is)
  (case zq0a => k_is); (case zq0c => k_is); (case zq01 => k_is); (case zq08 => k_is)
  (case zq06 => k_is); (case zq07 => k_is); (case zq00 => k_is); (case zq2z => k_is)
  (case zq2t => k_is); (case zq2w => k_is); (case zq2b => k_is); (case zq0q => k_is)
  (case zq0b => k_is); (case zq0k => k_is); (case zq0n => k_is); (case zq04 => k_is)
  (case zq1d => k_is); (case zq0y => k_is); (case zq16 => k_is); (case zq1a => k_is)
  (case zq0f => k_is); (case zq44 => k_is); (case zq3r => k_is); (case zq3y => k_is)
  (case zq33 => k_is); (case zq26 => k_is); (case zq1y => k_is); (case zq22 => k_is)
  (case zq12 => k_is); (case zq4h => k_is); (case zq4d => k_is); (case zq4f => k_is)
  (case zq4b => k_is); (case zq09 => k_is); (case zq05 => k_is); (case zq0w => k_is)
  (case zq0h => k_is); (case zq10 => k_is); (case zq0x => k_is); (case zq3n => k_is)
  (case zq3b => k_is); (case zq3h => k_is); (case zq2q => k_is); (case zq1u => k_is)
  (case zq1h => k_is); (case zq1p => k_is); (case zq0t => k_is); (case zq1w => k_is)
  (case zq18 => k_is); (case zq1j => k_is); (case zq1r => k_is); (case zq0v => k_is)
  (case zq4l => k_is); (case zq4i => k_is); (case zq4k => k_is); (case zq4j => k_is)
  (case mk_Growth => k_is); (case kc_Growth => k_is); (case pg_Growth => k_is); (case hd_Growth => k_is)
  (case po_Growth => k_is); (case sa_Growth => k_is); (case na_Growth_prime => k_is); (case na_Growth_pieces => k_is)
  (case na_Growth_sheets => k_is); (case na_Growth_edges => k_is); (case na_Growth_enders => k_is); (case lc_FACE_COUNTS => k_is)
  (case aq_MOST_PIECES => k_is); (case aq_PRIME_BOUND => k_is); (case z_isinstance => k_is); (case z_int => k_is)
  (case z_bool => k_is); (case z_tuple => k_is); (case z_zip => k_is); (case z_max => k_is)
  (case z_len => k_is); (case z_all => k_is); (case z_range => k_is); (case z_dict => k_is)
  (case z_enumerate => k_is); (case z_list => k_is)