import PyProof.Rows.All
import Wide.All
import OpenK.AllK
import Wide.FinOn
import Lean
import PyProof.EqAt
import PyProof.EqKinds
import PyProof.TupleCall
import PySem.Challenge.RW_holebook_k22_whole_turns_and_papers
set_option Elab.async false
set_option linter.all false
set_option maxRecDepth 100000

namespace L2
open PySem PySem.Spec PyProof.Rows


abbrev Key := Sum Int Str
def keyIs : Key → Value → Bool
  | .inl k, v => Value.isInt k v
  | .inr x, v => Value.isStrOf x v
def keyH (w : World) : Key → Int
  | .inl k => hashInt k
  | .inr x => hashStr w x
theorem keyIs_shape : ∀ {k : Key} {v : Value}, keyIs k v = true → (∃ i t, k = Sum.inl i ∧ v = Value.int i t) ∨ (∃ x t, k = Sum.inr x ∧ v = Value.str x t)
  | .inl i, v, h => by
    obtain ⟨t, e⟩ := Value.isInt_shape (k := i) (v := v) h
    exact .inl ⟨i, t, rfl, e⟩
  | .inr x, v, h => by
    obtain ⟨t, e⟩ := Value.isStrOf_shape (x := x) (v := v) h
    exact .inr ⟨x, t, rfl, e⟩
theorem key_ll (a b : Int) : decide ((Sum.inl a : Key) = Sum.inl b) = (a == b) := by
  by_cases e : a = b
  · subst e; simp
  · have h : ¬ (Sum.inl a : Key) = Sum.inl b := fun q => e (Sum.inl.inj q)
    rw [decide_eq_false h]
    exact (beq_eq_false_iff_ne.mpr e).symm
theorem key_rr (a b : Str) : decide ((Sum.inr a : Key) = Sum.inr b) = decide (a = b) := by
  by_cases e : a = b
  · subst e; simp
  · have h : ¬ (Sum.inr a : Key) = Sum.inr b := fun q => e (Sum.inr.inj q)
    rw [decide_eq_false h, decide_eq_false e]
theorem key_lr (a : Int) (b : Str) : decide ((Sum.inl a : Key) = Sum.inr b) = false := decide_eq_false (fun q => nomatch q)
theorem key_rl (a : Str) (b : Int) : decide ((Sum.inr a : Key) = Sum.inl b) = false := decide_eq_false (fun q => nomatch q)

def mixKind (prog : Program) (w : World) : PySem.KeyKind prog w Key where
  is := keyIs
  hash := keyH w
  inj := fun v a b ha hb => by
    rcases keyIs_shape ha with ⟨i, t, rfl, rfl⟩ | ⟨x, t, rfl, rfl⟩
    · rcases keyIs_shape hb with ⟨j, u, rfl, e⟩ | ⟨y, u, rfl, e⟩
      · injection e with e1 _; rw [e1]
      · exact nomatch e
    · rcases keyIs_shape hb with ⟨j, u, rfl, e⟩ | ⟨y, u, rfl, e⟩
      · exact nomatch e
      · injection e with e1 _; rw [e1]
  byValue := fun k v h => by
    rcases keyIs_shape h with ⟨i, t, rfl, rfl⟩ | ⟨x, t, rfl, rfl⟩ <;> rfl
  pyHash := fun hv h => by
    rcases keyIs_shape hv with ⟨i, t, rfl, rfl⟩ | ⟨x, t, rfl, rfl⟩
    · exact wpAny_pyHash_int h
    · exact wpAny_pyHash_str h
  eqBool := fun hu hv h => by
    rcases keyIs_shape hu with ⟨i, t, rfl, rfl⟩ | ⟨x, t, rfl, rfl⟩
    · rcases keyIs_shape hv with ⟨j, u, rfl, rfl⟩ | ⟨y, u, rfl, rfl⟩
      · rw [key_ll] at h; exact wpAny_eqBool_int h
      · rw [key_lr] at h; exact SeqAt.EqAt.int_str i t y u _ _ _ _ h
    · rcases keyIs_shape hv with ⟨j, u, rfl, rfl⟩ | ⟨y, u, rfl, rfl⟩
      · rw [key_rl] at h; exact SeqAt.EqAt.str_int x t j u _ _ _ _ h
      · rw [key_rr] at h; exact wpAny_eqBool_str h
  «strs» := fun k x t v h => by
    rcases keyIs_shape h with ⟨i, u, rfl, e⟩ | ⟨y, u, rfl, e⟩
    · exact nomatch e
    · injection e with e1 _
      subst e1
      cases v <;> rfl

end L2

namespace L2
open PySem PySem.Spec PyProof.Rows


inductive V where
  | non | bl (b : Bool) | int (i : Int) | str (x : Str) | byt (b : Array UInt8) | flt (b : UInt64) | ref (a : Addr) | ty (n : String)
  deriving DecidableEq

def RelV : V → Value → Prop
  | .non, u => u = Value.none
  | .bl b, u => u = Value.bool b
  | .int i, u => ∃ t, u = Value.int i t
  | .str x, u => ∃ t, u = Value.str x t
  | .byt b, u => ∃ t, u = Value.bytes b t
  | .flt b, u => ∃ t, u = Value.float b t
  | .ref a, u => u = Value.ref a
  | .ty n, u => u = Value.type n

abbrev Vals : List V → List Value → Prop := Paired RelV
theorem Vals.length {xs : List V} {us : List Value} (r : Vals xs us) : xs.length = us.length := Paired.length r
theorem Vals.get : ∀ {xs : List V} {us : List Value} {i : Nat} {x : V}, Vals xs us → xs[i]? = some x → ∃ u, us[i]? = some u ∧ RelV x u
  | _, _, _, _, .nil, e => by simp at e
  | _, _, 0, _, .cons r _, e => by simp at e; subst e; exact ⟨_, rfl, r⟩
  | _, _, i + 1, x, .cons _ t, e => by
    obtain ⟨u, h1, h2⟩ := Vals.get (i := i) (x := x) t (by simpa using e)
    exact ⟨u, by simpa using h1, h2⟩
theorem Vals.set {x : V} {u : Value} (r : RelV x u) : ∀ {xs : List V} {us : List Value} (i : Nat), Vals xs us → Vals (xs.set i x) (us.set i u)
  | _, _, _, .nil => .nil
  | _, _, 0, .cons _ t => .cons r t
  | _, _, i + 1, .cons q t => .cons q (Vals.set r i t)
theorem Vals.append : ∀ {xs ys : List V} {us ws : List Value}, Vals xs us → Vals ys ws → Vals (xs ++ ys) (us ++ ws)
  | _, _, _, _, .nil, s => s
  | _, _, _, _, .cons r t, s => .cons r (Vals.append t s)
theorem Vals.take : ∀ {xs : List V} {us : List Value} (n : Nat), Vals xs us → Vals (xs.take n) (us.take n)
  | _, _, 0, _ => .nil
  | _, _, _ + 1, .nil => .nil
  | _, _, n + 1, .cons r t => .cons r (Vals.take n t)
theorem Vals.drop : ∀ {xs : List V} {us : List Value} (n : Nat), Vals xs us → Vals (xs.drop n) (us.drop n)
  | _, _, 0, r => r
  | _, _, _ + 1, .nil => .nil
  | _, _, n + 1, .cons _ t => Vals.drop n t
theorem Vals.none_of : ∀ {xs : List V} {us : List Value} {i : Nat}, Vals xs us → xs[i]? = none → us[i]? = none := fun {xs us i} r e => by
  have h1 := r.length
  have h2 : xs.length ≤ i := List.getElem?_eq_none_iff.mp e
  exact List.getElem?_eq_none_iff.mpr (by omega)

def RelO : Option V → Option Value → Prop
  | some v, some u => RelV v u
  | none, none => True
  | _, _ => False
def KV {κ : Type} : List (κ × V) → List (κ × Value) → Prop := Paired fun (p : κ × V) (q : κ × Value) => p.1 = q.1 ∧ RelV p.2 q.2


def kV : Key → V
  | .inl i => .int i
  | .inr x => .str x


inductive HO where
  
  | lst (xs : List V)
  
  | tup (xs : List V)
  
  | dK (kvs : List (Key × V)) | dT (kvs : List (List Key × V))
  
  | set (S : Int → Bool) (n : Nat)
  
  | ins (C dx : Addr) (fs : List (Str × V))
  
  | own (x : Addr)
  
  | xd (fs : List (Str × V))
  
  | met (f x : Addr)
  
  | rng (lo hi : Int)
  
  | frz (o : Obj) (u : HO)
  
  | tbl (ps : Array Value)
  
  | ext (φ : Heap → Prop)

abbrev Hp := Addr → Option HO
def upd (H : Hp) (a : Addr) (o : HO) : Hp := fun b => if b = a then some o else H b
theorem upd_same {H : Hp} {a : Addr} {o : HO} : upd H a o a = some o := by unfold upd; rw [if_pos rfl]
theorem upd_ne {H : Hp} {a b : Addr} {o : HO} (h : b ≠ a) : upd H a o b = H b := by unfold upd; rw [if_neg h]
theorem ne_of {H : Hp} {a b : Addr} {o u : HO} (h : H a = some o) (h' : H b = some u) (d : o ≠ u) : a ≠ b := by
  intro e; subst e; rw [h] at h'; exact d (Option.some.inj h')
theorem ne_of_none {H : Hp} {a b : Addr} {o : HO} (h : H a = some o) (h' : H b = none) : a ≠ b := by
  intro e; subst e; rw [h] at h'; cases h'


def IsTupN (h : Heap) (a : Addr) (items : Array Value) : Prop := ∃ o, h.get? a = some o ∧ o.cls = .type "tuple" ∧ o.dict = none ∧ ∃ n, o.data = .seq items n
theorem IsTupN.tup {h : Heap} {a : Addr} {items : Array Value} (x : IsTupN h a items) : IsTup h a items := let ⟨o, e, c, _, d⟩ := x; ⟨o, e, c, d⟩
theorem IsTupN.lt {h : Heap} {a : Addr} {items : Array Value} (x : IsTupN h a items) : a < h.objs.size := x.tup.lt
theorem IsTupN.keep {h h' : Heap} {a : Addr} {items : Array Value} (x : IsTupN h a items) (k : ∀ o, h.get? a = some o → h'.get? a = some o) : IsTupN h' a items := let ⟨o, e, r⟩ := x; ⟨o, k o e, r⟩
theorem IsTupN.new (h : Heap) (items : Array Value) : IsTupN (h.push { cls := .type "tuple", data := .seq items }) h.objs.size items := ⟨_, Heap.get?_push_size _ rfl, rfl, rfl, _, rfl⟩
section
variable (P : Program) (w : World)
def ObjOk (H : Hp) (h : Heap) (a : Addr) : HO → Prop
  | .lst xs => xs.length ≤ sizeLine ∧ ∃ (its : List Value) (n : Nat), Vals xs its ∧ h.get? a = some { cls := .type "list", data := .seq its.toArray n }
  | .tup xs => xs.length ≤ sizeLine ∧ ∃ its : List Value, Vals xs its ∧ IsTupN h a its.toArray
  | .dK kvs => kvs.length ≤ sizeLine ∧ (a == sysModules) = false ∧ ∃ vs, KV kvs vs ∧ h.DictOf (mixKind P w) a vs
  | .dT kvs => kvs.length ≤ sizeLine ∧ (a == sysModules) = false ∧ ∃ xs : List (List Key × Addr × Value),
      Paired (fun (p : List Key × V) (q : List Key × Addr × Value) => p.1 = q.1 ∧ H q.2.1 = some (.tup (p.1.map kV)) ∧ RelV p.2 q.2.2) kvs xs ∧
      ∃ o es ep, h.get? a = some o ∧ o.ExactDict ∧ o.data = .dict es ep ∧ es.toList = xs.map (entryOfKey (tupleKind (mixKind P w))) ∧ (xs.map (·.1)).Nodup
  | .set S n => h.SetOf (intKind P w) a S n
  | .ins C dx fs => H dx = some (.own a) ∧ fs.length ≤ 1000 ∧ dx ≠ a ∧ h.get? a = some (PySem.W.instObj C dx) ∧
      ∃ mA, h.Ns1 dx mA ∧ (∀ f, RelO (fs.lookup f) (mA f)) ∧ PySem.Within mA (fs.map (·.1))
  | .own _ => ∃ o, h.get? a = some o
  | .xd fs => ∃ mA, h.Ns1 a mA ∧ ∀ f, RelO (fs.lookup f) (mA f)
  | .rng lo hi => ∃ t u v, h.get? a = some { cls := .type "range", data := .fields #[.int lo t, .int hi u, .int 1 v] }
  | .frz o u => h.get? a = some o ∧ ObjOk H h a u
  | .tbl ps => h.get? a = some { cls := .none, data := .fields ps }
  | .met f x => h.get? a = some (PySem.W.methodObj (.ref f) (.ref x))
  | .ext φ => φ h ∧ (∃ o, h.get? a = some o) ∧ ∀ h1 h2 : Heap, φ h1 → (∀ o, h1.get? a = some o → h2.get? a = some o) → φ h2

def HOk (H : Hp) (h : Heap) : Prop := ∀ a o, H a = some o → ObjOk P w H h a o
end

section
variable {P : Program} {w : World} {H H' : Hp} {h h' : Heap} {a : Addr} {o : HO}
theorem ObjOk.lt (x : ObjOk P w H h a o) : a < h.objs.size := by
  cases o with
  | lst xs => obtain ⟨_, _, _, _, e⟩ := x; exact Heap.lt_size e
  | tup xs => obtain ⟨_, _, _, p⟩ := x; exact p.lt
  | dK kvs => obtain ⟨_, _, _, _, o, _, _, e, _⟩ := x; exact Heap.lt_size e
  | dT kvs => obtain ⟨_, _, _, _, o, _, _, e, _⟩ := x; exact Heap.lt_size e
  | set S n => obtain ⟨o, _, _, _, e, _⟩ := x; exact Heap.lt_size e
  | ins C dx fs => obtain ⟨_, _, _, e, _⟩ := x; exact Heap.lt_size e
  | own y => obtain ⟨_, e⟩ := x; exact Heap.lt_size e
  | xd fs => obtain ⟨_, ⟨_, _, _, e, _⟩, _⟩ := x; exact Heap.lt_size e
  | rng lo hi => obtain ⟨_, _, _, e⟩ := x; exact Heap.lt_size e
  | frz ob u => obtain ⟨e, _⟩ := x; exact Heap.lt_size e
  | tbl ps => exact Heap.lt_size (show h.get? a = some _ from x)
  | met f y => exact Heap.lt_size (show h.get? a = some _ from x)
  | ext φ => obtain ⟨_, ⟨_, e⟩, _⟩ := x; exact Heap.lt_size e
theorem Paired.mapP {α β : Type} {F G : α → β → Prop} : ∀ {l₁ : List α} {l₂ : List β}, Paired F l₁ l₂ → (∀ a b, F a b → G a b) → Paired G l₁ l₂
  | _, _, .nil, _ => .nil
  | _, _, .cons r t, f => .cons (f _ _ r) (Paired.mapP t f)
theorem ObjOk.stay (x : ObjOk P w H h a o) (k : ∀ b u, (b = a ∨ H b = some (.own a)) → h.get? b = some u → h'.get? b = some u)
    (ho : ∀ b, H b = some (.own a) → H' b = some (.own a)) (ht : ∀ b xs, H b = some (.tup xs) → H' b = some (.tup xs)) : ObjOk P w H' h' a o := by
  induction o with
  | lst xs => obtain ⟨z, its, n, r, e⟩ := x; exact ⟨z, its, n, r, k _ _ (.inl rfl) e⟩
  | tup xs => obtain ⟨z, its, r, ob, e, c⟩ := x; exact ⟨z, its, r, ob, k _ _ (.inl rfl) e, c⟩
  | dK kvs => obtain ⟨z, y, vs, r, ob, es, ep, e, c⟩ := x; exact ⟨z, y, vs, r, ob, es, ep, k _ _ (.inl rfl) e, c⟩
  | dT kvs =>
    obtain ⟨z, y, xs, r, ob, es, ep, e, c⟩ := x
    exact ⟨z, y, xs, Paired.mapP r fun p q z => ⟨z.1, ht _ _ z.2.1, z.2.2⟩, ob, es, ep, k _ _ (.inl rfl) e, c⟩
  | set S n => obtain ⟨ob, es, ep, t, e, c⟩ := x; exact ⟨ob, es, ep, t, k _ _ (.inl rfl) e, c⟩
  | ins C dx fs =>
    obtain ⟨d, z, ne, e, mA, ⟨od, es, ep, e2, c⟩, r⟩ := x
    exact ⟨ho _ d, z, ne, k _ _ (.inl rfl) e, mA, ⟨od, es, ep, k _ _ (.inr d) e2, c⟩, r⟩
  | own y => obtain ⟨ob, e⟩ := x; exact ⟨ob, k _ _ (.inl rfl) e⟩
  | xd fs => obtain ⟨mA, ⟨od, es, ep, e, c⟩, r⟩ := x; exact ⟨mA, ⟨od, es, ep, k _ _ (.inl rfl) e, c⟩, r⟩
  | rng lo hi => obtain ⟨t, u, v, e⟩ := x; exact ⟨t, u, v, k _ _ (.inl rfl) e⟩
  | frz ob u ih => obtain ⟨e, q⟩ := x; exact ⟨k _ _ (.inl rfl) e, ih q⟩
  | tbl ps =>
    have e : h.get? a = some { cls := .none, data := .fields ps } := x
    show h'.get? a = some { cls := .none, data := .fields ps }
    exact k a _ (.inl rfl) e
  | met f y =>
    have e : h.get? a = some (PySem.W.methodObj (.ref f) (.ref y)) := x
    show h'.get? a = some (PySem.W.methodObj (.ref f) (.ref y))
    exact k a _ (.inl rfl) e
  | ext φ => obtain ⟨p, ⟨o, e⟩, st⟩ := x; exact ⟨st _ _ p fun o q => k _ _ (.inl rfl) q, ⟨o, k _ _ (.inl rfl) e⟩, st⟩
theorem HOk.lt (x : HOk P w H h) (e : H a = some o) : a < h.objs.size := (x a o e).lt
theorem HOk.fresh (x : HOk P w H h) (e : h.objs.size ≤ a) : H a = none := by
  cases q : H a with
  | none => rfl
  | some u => exact absurd (Nat.lt_of_lt_of_le (x.lt q) e) (Nat.lt_irrefl _)

theorem HOk.kept (x : HOk P w H h) (k : ∀ b u, h.get? b = some u → h'.get? b = some u) : HOk P w H h' := fun a o e =>
  (x a o e).stay (fun b u _ q => k b u q) (fun _ q => q) fun _ _ q => q

theorem HOk.laid (x : HOk P w H h) (k : ∀ b u, h.get? b = some u → h'.get? b = some u) (hp : h.objs.size ≤ a) (new : ObjOk P w (upd H a o) h' a o) : HOk P w (upd H a o) h' := fun b u e => by
  have hn := x.fresh hp
  by_cases hb : b = a
  · subst hb; rw [upd_same] at e; cases e; exact new
  · rw [upd_ne hb] at e
    exact (x b u e).stay (fun c v _ q => k c v q) (fun c q => by rw [upd_ne (ne_of_none q hn)]; exact q) fun c xs q => by rw [upd_ne (ne_of_none q hn)]; exact q
end


def Rd (H : Hp) (a : Addr) (u : HO) : Prop := H a = some u ∨ ∃ o, H a = some (.frz o u)
theorem Rd.of {H : Hp} {a : Addr} {u : HO} (h : H a = some u) : Rd H a u := .inl h
theorem Rd.ok {P : Program} {w : World} {H : Hp} {h : Heap} {a : Addr} {u : HO} (r : Rd H a u) (x : HOk P w H h) : ObjOk P w H h a u := by
  rcases r with r | ⟨o, r⟩
  · exact x a u r
  · obtain ⟨_, q⟩ := x a _ r
    exact q

def Mut : Option HO → Prop
  | some (.lst _) => True
  | some (.dK _) => True
  | some (.dT _) => True
  | some (.set _ _) => True
  | some (.ins _ _ _) => True
  | some (.ext _) => True
  | _ => False
section
variable {P : Program} {w : World} {H : Hp} {h h' : Heap} {x e : Addr} {o' : HO}

theorem HOk.write (ok : HOk P w H h) (mu : Mut (H x)) (he : e = x ∨ H e = some (.own x)) (k : ∀ b u, b ≠ e → h.get? b = some u → h'.get? b = some u) (heo : ∃ u, h'.get? e = some u)
    (new : ObjOk P w (upd H x o') h' x o') : HOk P w (upd H x o') h' := fun b u q => by
  have nown : ∀ c y, H c = some (.own y) → c ≠ x := fun c y r z => by subst z; rw [r] at mu; exact mu
  have ntup : ∀ c xs, H c = some (.tup xs) → c ≠ x := fun c xs r z => by subst z; rw [r] at mu; exact mu
  by_cases hb : b = x
  · subst hb; rw [upd_same] at q; cases q; exact new
  · rw [upd_ne hb] at q
    by_cases hbe : b = e
    · have q' : H b = some (.own x) := by
        rcases he with z | z
        · exact absurd (hbe.trans z) hb
        · rw [hbe]; exact z
      rw [q] at q'; cases q'
      obtain ⟨v, hv⟩ := heo
      exact ⟨v, by rw [hbe]; exact hv⟩
    · refine (ok b u q).stay (fun c v hc r => k c v ?_ r) (fun c r => by rw [upd_ne (nown c b r)]; exact r) fun c xs r => by rw [upd_ne (ntup c xs r)]; exact r
      rcases hc with rfl | hc
      · exact hbe
      · rintro rfl
        rcases he with z | z
        · exact nown c b hc z
        · rw [hc] at z; cases z; exact hb rfl
end


structure Un (fs ex : List Addr) (H H' : Hp) (h h' : Heap) : Prop where
  keep : ∀ b o, h.get? b = some o → H b = none → b ∉ fs → b ∉ ex → h'.get? b = some o
  slot : ∀ b o, h.get? b = some o → H b = none → b ∈ fs → b ∉ ex → ∃ sl, h'.get? b = some { o with slots := sl }
  free : ∀ b o, h.get? b = some o → H b = none → b ∉ ex → H' b = none
  there : ∀ b o, h.get? b = some o → b ∉ ex → ∃ o', h'.get? b = some o'
  tups : ∀ b xs, H b = some (.tup xs) → H' b = some (.tup xs)
  frzs : ∀ b o u, H b = some (.frz o u) → H' b = some (.frz o u)
  tbls : ∀ b ps, H b = some (.tbl ps) → ∃ more, H' b = some (.tbl (ps ++ more))
section
variable {fs fs' ex ex' : List Addr} {H H1 H2 : Hp} {h h1 h2 h' : Heap} {a x e : Addr} {o : HO}
theorem Un.any (u : Un fs ex H H1 h h1) {b : Addr} {ob : Obj} (q : h.get? b = some ob) (n : H b = none) (hx : b ∉ ex) : ∃ sl, h1.get? b = some { ob with slots := sl } := by
  by_cases hb : b ∈ fs
  · exact u.slot b ob q n hb hx
  · exact ⟨ob.slots, u.keep b ob q n hb hx⟩
theorem Un.trans (a : Un fs ex H H1 h h1) (b : Un fs ex H1 H2 h1 h2) : Un fs ex H H2 h h2 where
  keep := fun c ob q n hc hx => b.keep c ob (a.keep c ob q n hc hx) (a.free c ob q n hx) hc hx
  slot := fun c ob q n hc hx => by
    obtain ⟨sl, e1⟩ := a.slot c ob q n hc hx
    obtain ⟨sl', e2⟩ := b.slot c _ e1 (a.free c ob q n hx) hc hx
    exact ⟨sl', e2⟩
  free := fun c ob q n hx => by
    obtain ⟨o', e1⟩ := a.there c ob q hx
    exact b.free c o' e1 (a.free c ob q n hx) hx
  there := fun c ob q hx => by
    obtain ⟨o', e1⟩ := a.there c ob q hx
    exact b.there c o' e1 hx
  tups := fun c xs q => b.tups c xs (a.tups c xs q)
  frzs := fun c ob xs q => b.frzs c ob xs (a.frzs c ob xs q)
  tbls := fun c ps q => by
    obtain ⟨m1, e1⟩ := a.tbls c ps q
    obtain ⟨m2, e2⟩ := b.tbls c _ e1
    exact ⟨m1 ++ m2, by rw [e2, Array.append_assoc]⟩
theorem Un.kept (k : ∀ b u, h.get? b = some u → h'.get? b = some u) : Un fs ex H H h h' :=
  ⟨fun b ob q _ _ _ => k b ob q, fun b ob q _ _ _ => ⟨ob.slots, k b ob q⟩, fun _ _ _ n _ => n, fun b ob q _ => ⟨ob, k b ob q⟩, fun _ _ q => q, fun _ _ _ q => q, fun _ ps q => ⟨#[], by rw [q]; simp⟩⟩
theorem Un.refl : Un fs ex H H h h := Un.kept fun _ _ q => q
theorem Un.laid (k : ∀ b u, h.get? b = some u → h'.get? b = some u) (hp : h.objs.size ≤ a) (hn : H a = none) : Un fs ex H (upd H a o) h h' where
  keep := fun b u q _ _ _ => k b u q
  slot := fun b u q _ _ _ => ⟨u.slots, k b u q⟩
  free := fun b u q n _ => by rw [upd_ne (Nat.ne_of_lt (Nat.lt_of_lt_of_le (Heap.lt_size q) hp))]; exact n
  there := fun b u q _ => ⟨u, k b u q⟩
  tups := fun b xs q => by rw [upd_ne (ne_of_none q hn)]; exact q
  frzs := fun b u xs q => by rw [upd_ne (ne_of_none q hn)]; exact q
  tbls := fun b ps q => ⟨#[], by rw [upd_ne (ne_of_none q hn), q]; simp⟩
theorem Un.write (mu : Mut (H x)) (he : e = x ∨ H e = some (.own x)) (k : ∀ b u, b ≠ e → h.get? b = some u → h'.get? b = some u) (heo : ∃ u, h'.get? e = some u) : Un fs ex H (upd H x o) h h' := by
  have hx : ∀ b, H b = none → b ≠ x := fun b n z => by subst z; rw [n] at mu; exact mu
  have hb : ∀ b, H b = none → b ≠ e := fun b n z => by
    subst z
    rcases he with r | r
    · exact hx b n r
    · rw [n] at r; cases r
  have hm : ∀ b u, H b = some u → ¬ Mut (some u) → b ≠ x := fun b u q nm z => by subst z; rw [q] at mu; exact nm mu
  refine ⟨fun b u q n _ _ => k b u (hb b n) q, fun b u q n _ _ => ⟨u.slots, k b u (hb b n) q⟩, fun b u q n _ => by rw [upd_ne (hx b n)]; exact n, fun b u q _ => ?_,
    fun b xs q => by rw [upd_ne (hm b _ q fun z => z)]; exact q, fun b u xs q => by rw [upd_ne (hm b _ q fun z => z)]; exact q, fun b ps q => ⟨#[], by rw [upd_ne (hm b _ q fun z => z), q]; simp⟩⟩
  by_cases hbe : b = e
  · subst hbe; exact heo
  · exact ⟨u, k b u hbe q⟩
theorem Un.mono (u : Un fs ex H H1 h h1) (hs : ∀ b ∈ fs, b ∈ fs') (hx : ∀ b ∈ ex, b ∈ ex') : Un fs' ex' H H1 h h1 :=
  ⟨fun b ob q n hb he => u.keep b ob q n (fun z => hb (hs b z)) fun z => he (hx b z), fun _ _ q n _ he => u.any q n fun z => he (hx _ z), fun b ob q n he => u.free b ob q n fun z => he (hx b z), fun b ob q he => u.there b ob q fun z => he (hx b z), u.tups, u.frzs, u.tbls⟩
end


def trk (h : Heap) (H : Hp) : List Addr := (List.range h.objs.size).filter fun a => (H a).isSome
def hidT (h : Heap) (H : Hp) : Heap := PySem.W.hideAll h (trk h H)
theorem hidT_size (h : Heap) (H : Hp) : (hidT h H).objs.size = h.objs.size := PySem.W.hideAll_size _ _
theorem hidT_get {h : Heap} {H : Hp} {b : Addr} {o : Obj} (e : h.get? b = some o) (n : H b = none) : (hidT h H).get? b = some o :=
  PySem.W.hideAll_get _ e fun hm => by
    have q : (H b).isSome = true := (List.mem_filter.mp hm).2
    rw [n] at q; simp at q
theorem of_hidT {h : Heap} {H : Hp} {b : Addr} {o : Obj} (e : (hidT h H).get? b = some o) : h.get? b = some o ∧ H b = none := by
  have e' : h.get? b = some o := PySem.W.of_hideAll (trk h H) e
  refine ⟨e', ?_⟩
  cases q : H b with
  | none => rfl
  | some x =>
    have hm : b ∈ trk h H := List.mem_filter.mpr ⟨List.mem_range.mpr (Heap.lt_size e'), by simp [q]⟩
    have z : (hidT h H).get? b = none := PySem.W.hideAll_none (trk h H) hm
    rw [z] at e; cases e


def allNews (g h : Heap) (L : Addr) : List (Addr × Obj) := (List.range h.objs.size).filterMap fun a => if a = L ∨ (g.get? a).isSome = true then none else (h.get? a).map fun o => (a, o)
def rest (g h : Heap) (L d : Addr) : List (Addr × Obj) := (allNews g h L).filter fun p => decide (p.1 ≠ d)
end L2

namespace L2
open PySem PySem.Spec PyProof.Rows


structure Mod (K : PySem.W.Frag) (mg : Str → Option Value) (base : Heap) : Prop where
  kin : K.In base
  glob : base.Ns mainGlobals mg
  blt : ∃ mb, base.Ns builtinsNs mb ∧ ∀ x : Str, x ≠ "__name__" → mb x = bootBuiltins x
  nolimit : base.NoLimit


structure Cx where
  prog : Program
  w : World
  K : PySem.W.Frag
  mg : Str → Option Value
  base : Heap
  A : Around
  N : List Str
  s₀ : Shared
  H₀ : Hp
  env : Env
  outer : List Env
  stack : List Env
  ex : List Addr
  fn : Str → Bool
  calm : Bool
  pn : List (Addr × Obj)
  xe : Value → Shared → Prop

def frs (l : List Env) : List Addr := l.filterMap (·.frame)
abbrev Cx.fs (X : Cx) : List Addr := frs X.outer

def Vis (sc : Scope) (x : Str) : Prop := sc.names.lookup x = some .local ∨ sc.names.lookup x = some .cell ∨ sc.names.lookup x = some .free
def Loc (sc : Scope) (x : Str) : Prop := sc.names.lookup x = some .local ∨ sc.names.lookup x = some .cell
def Look (env : Env) (h : Heap) (m : Str → Option Value) (x : Str) (u : Value) : Prop :=
  (env.kindOf x = some .local ∧ m x = some u) ∨ ((env.kindOf x = some .cell ∨ env.kindOf x = some .free) ∧ ∃ c, env.cells.lookup x = some c ∧ h.IsCell c (some u))

structure Cx.Ok (X : Cx) : Prop where
  mod : Mod X.K X.mg X.base
  kind : X.env.scope.kind = .function
  glob : X.env.globals = mainGlobals
  blt : X.env.builtins = builtinsNs
  above : X.s₀.heap.objs.size ≤ X.env.locals
  inj : ∀ x y c, X.env.cells.lookup x = some c → X.env.cells.lookup y = some c → x = y
  has : ∀ x, (X.env.kindOf x = some .cell ∨ X.env.kindOf x = some .free) → ∃ c, X.env.cells.lookup x = some c
  cab : ∀ x c, X.fn x = true → X.env.cells.lookup x = some c → X.s₀.heap.objs.size ≤ c
  hd : X.calm = true → X.A.handled = none
  frames : X.A.frames = some X.stack
  stk : X.stack = X.outer ∨ (X.stack = X.env :: X.outer ∧ X.env.frame = some X.env.locals)
  exf : ∀ b ∈ X.ex, b ≠ X.env.locals ∧ ∀ x c, X.env.cells.lookup x = some c → c ≠ b
  bs : ∀ b o, X.base.get? b = some o → X.s₀.heap.get? b = some o ∧ X.H₀ b = none
  bsz : X.base.objs.size ≤ X.s₀.heap.objs.size
  noex : ∀ b o, X.base.get? b = some o → b ∉ X.ex
  exfs : ∀ b ∈ X.ex, b ∉ X.fs
  funs : X.s₀.heap.FunFrames X.base X.outer
  frf : ∀ b ∈ X.fs, X.H₀ b = none

structure Inv (X : Cx) (pins : List (Addr × Obj)) (σ : List (Option V)) (H : Hp) (s : Shared) : Prop where
  ok : X.Ok
  os : s.os = X.s₀.os
  bare : AllBare s.gens
  base : Un X.fs X.ex X.H₀ H X.s₀.heap s.heap
  loc : ∃ m, s.heap.Ns X.env.locals m ∧ ∀ (i : Nat) (x : Str) (v : V), X.N[i]? = some x → σ[i]? = some (some v) → Vis X.env.scope x → ∃ u, RelV v u ∧ Look X.env s.heap m x u
  cell : ∀ x c, X.env.cells.lookup x = some c → ∃ v, s.heap.IsCell c v
  free : H X.env.locals = none
  freeC : ∀ x c, X.env.cells.lookup x = some c → H c = none
  pin : ∀ p ∈ X.pn ++ pins, s.heap.get? p.1 = some p.2 ∧ H p.1 = none ∧ p.1 ≠ X.env.locals ∧ p.1 ∉ X.fs ∧ ∀ v, p.2.data ≠ .cell v
  hok : HOk X.prog X.w H s.heap
  len : σ.length = X.N.length

section
variable {X : Cx} {pins : List (Addr × Obj)} {σ : List (Option V)} {H H' : Hp} {s : Shared} {h' : Heap}

theorem Cx.Ok.nofr (ok : X.Ok) {b : Addr} {o : Obj} (e : X.base.get? b = some o) : b ∉ X.fs := fun hb => by
  have := (ok.funs.mem hb).1
  rw [e] at this; cases this
theorem Inv.bs (I : Inv X pins σ H s) : ∀ b o, X.base.get? b = some o → s.heap.get? b = some o ∧ H b = none := fun b o e =>
  ⟨I.base.keep b o (I.ok.bs b o e).1 (I.ok.bs b o e).2 (I.ok.nofr e) (I.ok.noex b o e), I.base.free b o (I.ok.bs b o e).1 (I.ok.bs b o e).2 (I.ok.noex b o e)⟩
theorem Inv.bk (I : Inv X pins σ H s) : ∀ b o, X.base.get? b = some o → s.heap.get? b = some o := fun b o e => (I.bs b o e).1
theorem Inv.mod (I : Inv X pins σ H s) : Mod X.K X.mg X.base := I.ok.mod
theorem Inv.kIn (I : Inv X pins σ H s) : X.K.In s.heap := I.ok.mod.kin.keeps I.bk
theorem Inv.nolimit (I : Inv X pins σ H s) : s.heap.NoLimit := I.ok.mod.nolimit.keeps I.bk

theorem Inv.fr (I : Inv X pins σ H s) : ∃ m, Fr X.base X.env.locals s.heap m :=
  let ⟨m, hn, _⟩ := I.loc
  ⟨m, hn, I.bk, Nat.le_trans I.ok.bsz I.ok.above⟩
theorem Inv.lt (I : Inv X pins σ H s) : X.env.locals < s.heap.objs.size := let ⟨_, hn, _⟩ := I.loc; hn.lt
theorem Inv.sz (I : Inv X pins σ H s) : X.s₀.heap.objs.size ≤ s.heap.objs.size := Nat.le_trans I.ok.above (Nat.le_of_lt I.lt)
theorem Inv.nofs (I : Inv X pins σ H s) {a : Addr} (h : s.heap.objs.size ≤ a) : a ∉ X.fs := fun hb => by
  obtain ⟨_, o, ho, _⟩ := I.ok.funs.mem hb
  exact absurd (Nat.lt_of_lt_of_le (Heap.lt_size ho) (Nat.le_trans I.sz h)) (Nat.lt_irrefl _)
theorem Inv.cne (I : Inv X pins σ H s) : ∀ x c, X.env.cells.lookup x = some c → c ≠ X.env.locals := fun x c e z => by
  obtain ⟨v, o, ho, hd⟩ := I.cell x c e
  obtain ⟨m, ⟨o', es, ep, ho', hd', _⟩, _⟩ := I.loc
  rw [z, ho'] at ho; cases ho; rw [hd'] at hd; cases hd
theorem Inv.funs (I : Inv X pins σ H s) : s.heap.FunFrames X.base X.outer := by
  have all : ∀ (l : List Env), (∀ b ∈ frs l, b ∈ X.fs) → X.s₀.heap.FunFrames X.base l → s.heap.FunFrames X.base l := by
    intro l
    induction l with
    | nil => intro _ _; trivial
    | cons env r ih =>
      intro hs hl
      obtain ⟨hk, ⟨L, o, hf, hn, ho, hd⟩, hr⟩ := hl
      have hL : L ∈ X.fs := hs L (by unfold frs; rw [List.filterMap_cons, hf]; exact List.mem_cons_self)
      obtain ⟨sl, e⟩ := I.base.slot L o ho (I.ok.frf L hL) hL fun z => I.ok.exfs L z hL
      exact ⟨hk, ⟨L, _, hf, hn, e, hd⟩, ih (fun b hb => hs b (by unfold frs; rw [List.filterMap_cons, hf]; exact List.mem_cons_of_mem _ hb)) hr⟩
  exact all X.outer (fun _ hb => hb) I.ok.funs


theorem Inv.stack (I : Inv X pins σ H s) : s.heap.FunFrames X.base X.stack := by
  rcases I.ok.stk with e | ⟨e, hf⟩
  · rw [e]; exact I.funs
  · rw [e]
    obtain ⟨m, hn, _⟩ := I.loc
    refine .cons (by rw [I.ok.kind]; decide) hf hn ?_ I.funs
    exact Heap.get?_none_of_le (Nat.le_trans I.ok.bsz I.ok.above)
theorem Inv.stkSub (I : Inv X pins σ H s) : ∀ b ∈ frs X.stack, b ∈ X.env.locals :: X.fs := fun b hb => by
  rcases I.ok.stk with e | ⟨e, hf⟩
  · rw [e] at hb; exact List.mem_cons_of_mem _ hb
  · rw [e] at hb
    unfold frs at hb
    rw [List.filterMap_cons, hf] at hb
    exact hb
theorem Inv.stkFree (I : Inv X pins σ H s) : ∀ b ∈ frs X.stack, H b = none := fun b hb => by
  rcases List.mem_cons.mp (I.stkSub b hb) with e | hb
  · rw [e]; exact I.free
  · obtain ⟨_, o, ho, _⟩ := I.ok.funs.mem hb
    exact I.base.free b o ho (I.ok.frf b hb) fun z => I.ok.exfs b z hb


theorem Inv.step {g' : Array GenState} {t' : Nat} {d' : Drawn} {ch : List Addr} (I : Inv X pins σ H s)
    (hch : ∀ b ∈ ch, (b ∈ X.ex ∨ X.s₀.heap.objs.size ≤ b) ∧ b ≠ X.env.locals ∧ (∀ x c, X.env.cells.lookup x = some c → c ≠ b) ∧ ∀ p ∈ X.pn ++ pins, p.1 ≠ b)
    (keep : ∀ b o, b ≠ X.env.locals → b ∉ X.fs → b ∉ ch → s.heap.get? b = some o → H b = none → h'.get? b = some o)
    (slot : ∀ b o, b ≠ X.env.locals → b ∈ X.fs → b ∉ ch → s.heap.get? b = some o → H b = none → ∃ sl, h'.get? b = some { o with slots := sl }) (free : ∀ b o, b ∉ ch → s.heap.get? b = some o → H b = none → H' b = none)
    (there : ∀ b o, b ∉ ch → s.heap.get? b = some o → ∃ o', h'.get? b = some o')
    (tups : ∀ b xs, H b = some (.tup xs) → H' b = some (.tup xs)) (frzs : ∀ b o u, H b = some (.frz o u) → H' b = some (.frz o u)) (tbls : ∀ b ps, H b = some (.tbl ps) → ∃ more, H' b = some (.tbl (ps ++ more)))
    (ns : ∀ m, s.heap.Ns X.env.locals m → h'.Ns X.env.locals m) (hok : HOk X.prog X.w H' h') (hg : AllBare g') :
    Inv X pins σ H' { s with heap := h', gens := g', drawn := d', toks := t' } := by
  have neL : ∀ b o, X.s₀.heap.get? b = some o → b ≠ X.env.locals := fun b o e => Nat.ne_of_lt (Nat.lt_of_lt_of_le (Heap.lt_size e) I.ok.above)
  have neC : ∀ b o, X.s₀.heap.get? b = some o → b ∉ X.ex → b ∉ ch := fun b o e hx hb => by
    rcases (hch b hb).1 with z | z
    · exact hx z
    · exact absurd (Nat.lt_of_lt_of_le (Heap.lt_size e) z) (Nat.lt_irrefl _)
  have cellK : ∀ x c, X.env.cells.lookup x = some c → ∀ v, s.heap.IsCell c v → h'.IsCell c v := fun x c e v ⟨o, ho, hd⟩ => by
    have nch : c ∉ ch := fun z => (hch c z).2.2.1 x c e rfl
    by_cases hc : c ∈ X.fs
    · obtain ⟨sl, q⟩ := slot c o (I.cne x c e) hc nch ho (I.freeC x c e)
      exact ⟨_, q, hd⟩
    · exact ⟨o, keep c o (I.cne x c e) hc nch ho (I.freeC x c e), hd⟩
  refine ⟨I.ok, I.os, hg, ⟨fun b o e n hb hx => ?_, fun b o e n hb hx => ?_, fun b o e n hx => ?_, fun b o e hx => ?_, fun b xs e => tups b xs (I.base.tups b xs e), fun b o xs e => frzs b o xs (I.base.frzs b o xs e), fun b ps e => ?_⟩, ?_, fun x c e => ?_, ?_, fun x c e => ?_, fun p hp => ?_, hok, I.len⟩
  · exact keep b o (neL b o e) hb (neC b o e hx) (I.base.keep b o e n hb hx) (I.base.free b o e n hx)
  · obtain ⟨sl, e1⟩ := I.base.slot b o e n hb hx
    obtain ⟨sl', e2⟩ := slot b _ (neL b o e) hb (neC b o e hx) e1 (I.base.free b o e n hx)
    exact ⟨sl', e2⟩
  · obtain ⟨o', e1⟩ := I.base.there b o e hx
    exact free b o' (neC b o e hx) e1 (I.base.free b o e n hx)
  · obtain ⟨o', e1⟩ := I.base.there b o e hx
    exact there b o' (neC b o e hx) e1
  · obtain ⟨m1, e1⟩ := I.base.tbls b ps e
    obtain ⟨m2, e2⟩ := tbls b _ e1
    exact ⟨m1 ++ m2, by rw [e2, Array.append_assoc]⟩
  · obtain ⟨m, hn, hl⟩ := I.loc
    refine ⟨m, ns m hn, fun i x v e1 e2 e3 => ?_⟩
    obtain ⟨u, r, l⟩ := hl i x v e1 e2 e3
    refine ⟨u, r, ?_⟩
    rcases l with l | ⟨k, c, e, z⟩
    · exact .inl l
    · exact .inr ⟨k, c, e, cellK x c e _ z⟩
  · obtain ⟨v, z⟩ := I.cell x c e
    exact ⟨v, cellK x c e v z⟩
  · obtain ⟨m, ⟨o, _, _, ho, _⟩, _⟩ := I.loc
    exact free _ o (fun z => (hch _ z).2.1 rfl) ho I.free
  · obtain ⟨v, o, ho, hd⟩ := I.cell x c e
    exact free c o (fun z => (hch c z).2.2.1 x c e rfl) ho (I.freeC x c e)
  · obtain ⟨e, n, ne, nf, d⟩ := I.pin p hp
    have nch : p.1 ∉ ch := fun z => (hch p.1 z).2.2.2 p hp rfl
    exact ⟨keep p.1 p.2 ne nf nch e n, free p.1 p.2 nch e n, ne, nf, d⟩

theorem Inv.un {t' : Nat} (I : Inv X pins σ H s) (u : Un X.fs [] H H' s.heap h') (hok : HOk X.prog X.w H' h') : Inv X pins σ H' { s with heap := h', toks := t' } := by
  obtain ⟨m, ⟨o, es, ep, ho, r⟩, _⟩ := id I.loc
  obtain ⟨sl, hL⟩ := u.any ho I.free (by simp)
  exact I.step (g' := s.gens) (d' := s.drawn) (ch := []) (fun _ z => nomatch z) (fun b o _ hb _ e n => u.keep b o e n hb (by simp)) (fun b o _ hb _ e n => u.slot b o e n hb (by simp)) (fun b o _ e n => u.free b o e n (by simp)) (fun b o _ e => u.there b o e (by simp)) u.tups u.frzs u.tbls (fun m' hm => by
    obtain ⟨o', es', ep', ho', r'⟩ := hm
    rw [ho] at ho'; cases ho'
    exact ⟨_, es', ep', hL, r'⟩) hok I.bare

theorem Inv.call {g' : Array GenState} {t' : Nat} {d' : Drawn} {ch : List Addr} (I : Inv X pins σ H s) (u : Un (frs X.stack) ch H H' s.heap h') (hok : HOk X.prog X.w H' h') (hg : AllBare g')
    (hch : ∀ b ∈ ch, (b ∈ X.ex ∨ X.s₀.heap.objs.size ≤ b) ∧ b ≠ X.env.locals ∧ (∀ x c, X.env.cells.lookup x = some c → c ≠ b) ∧ ∀ p ∈ X.pn ++ pins, p.1 ≠ b) :
    Inv X pins σ H' { s with heap := h', gens := g', drawn := d', toks := t' } := by
  obtain ⟨m, ⟨o, es, ep, ho, r⟩, _⟩ := id I.loc
  obtain ⟨sl, hL⟩ := u.any ho I.free fun z => (hch _ z).2.1 rfl
  exact I.step (ch := ch) hch (fun b o hL hb hc e n => u.keep b o e n (fun z => (List.mem_cons.mp (I.stkSub b z)).elim hL hb) hc) (fun b o _ _ hc e n => u.any e n hc) (fun b o hc e n => u.free b o e n hc) (fun b o hc e => u.there b o e hc) u.tups u.frzs u.tbls (fun m' hm => by
    obtain ⟨o', es', ep', ho', r'⟩ := hm
    rw [ho] at ho'; cases ho'
    exact ⟨_, es', ep', hL, r'⟩) hok hg

theorem Inv.turned {t' : Nat} {it : Addr} (I : Inv X pins σ H s) (k : ∀ b o, b ≠ it → s.heap.get? b = some o → h'.get? b = some o) (hn : H it = none) (hL : it ≠ X.env.locals)
    (h1 : it ∈ X.ex ∨ X.s₀.heap.objs.size ≤ it) (h2 : ∀ x c, X.env.cells.lookup x = some c → c ≠ it) (h3 : ∀ p ∈ X.pn ++ pins, p.1 ≠ it) : Inv X pins σ H { s with heap := h', toks := t' } := by
  have nit : ∀ b u, H b = some u → b ≠ it := fun b u e z => by rw [z, hn] at e; cases e
  refine I.step (g' := s.gens) (d' := s.drawn) (ch := [it]) (fun b hb => ?_) (fun b o _ _ hc e _ => k b o (fun z => hc (by simp [z])) e) (fun b o _ _ hc e _ => ⟨o.slots, k b o (fun z => hc (by simp [z])) e⟩) (fun _ _ _ _ n => n)
    (fun b o hc e => ⟨o, k b o (fun z => hc (by simp [z])) e⟩) (fun _ _ e => e) (fun _ _ _ e => e) (fun b ps e => ⟨#[], by rw [e]; simp⟩) (fun m hm => ?_) (fun b u e => ?_) I.bare
  · have e : b = it := by simpa using hb
    subst e
    exact ⟨h1, hL, h2, h3⟩
  · obtain ⟨o, es, ep, ho, r⟩ := hm
    exact ⟨o, es, ep, k _ o (Ne.symm hL) ho, r⟩
  · refine (I.hok b u e).stay (fun c v hc q => k c v ?_ q) (fun _ q => q) fun _ _ q => q
    rcases hc with z | z
    · rw [z]; exact nit b u e
    · exact nit c _ z
theorem Inv.tok (I : Inv X pins σ H s) (t : Nat) : Inv X pins σ H { s with toks := t } := I.un (h' := s.heap) (t' := t) Un.refl I.hok

theorem Inv.kept {t' : Nat} (I : Inv X pins σ H s) (k : ∀ b u, s.heap.get? b = some u → h'.get? b = some u) : Inv X pins σ H { s with heap := h', toks := t' } := I.un (Un.kept k) (I.hok.kept k)

theorem Inv.laid {a : Addr} {o : HO} {t' : Nat} (I : Inv X pins σ H s) (k : ∀ b u, s.heap.get? b = some u → h'.get? b = some u) (hp : s.heap.objs.size ≤ a) (new : ObjOk X.prog X.w (upd H a o) h' a o) :
    Inv X pins σ (upd H a o) { s with heap := h', toks := t' } := I.un (Un.laid k hp (I.hok.fresh hp)) (I.hok.laid k hp new)

theorem Inv.write {x e : Addr} {o : HO} {t' : Nat} (I : Inv X pins σ H s) (mu : Mut (H x)) (he : e = x ∨ H e = some (.own x)) (k : ∀ b u, b ≠ e → s.heap.get? b = some u → h'.get? b = some u) (heo : ∃ u, h'.get? e = some u)
    (new : ObjOk X.prog X.w (upd H x o) h' x o) : Inv X pins σ (upd H x o) { s with heap := h', toks := t' } := I.un (Un.write mu he k heo) (I.hok.write mu he k heo new)

theorem Inv.pins_of {pins' : List (Addr × Obj)} (I : Inv X pins σ H s) (h : ∀ p ∈ pins', s.heap.get? p.1 = some p.2 ∧ H p.1 = none ∧ p.1 ≠ X.env.locals ∧ p.1 ∉ X.fs ∧ ∀ v, p.2.data ≠ .cell v) : Inv X pins' σ H s :=
  ⟨I.ok, I.os, I.bare, I.base, I.loc, I.cell, I.free, I.freeC, fun p hp => (List.mem_append.mp hp).elim (fun z => I.pin p (List.mem_append_left _ z)) (h p), I.hok, I.len⟩

theorem nodup_ix {N : List Str} (hN : N.Nodup) {i j : Nat} {x : Str} (a : N[i]? = some x) (b : N[j]? = some x) : i = j := by
  obtain ⟨h1, e1⟩ := List.getElem?_eq_some_iff.mp a
  obtain ⟨h2, e2⟩ := List.getElem?_eq_some_iff.mp b
  exact (List.getElem_inj hN).mp (e1.trans e2.symm)


theorem store_ok2 {M : Model} {A : Around} {E : Value → Shared → Prop} {i : Nat} {x : Str} {v : V} {u : Value} {Q : Unit → Shared → Prop} (I : Inv X pins σ H s) (hN : X.N.Nodup) (hi : X.N[i]? = some x) (hx : Loc X.env.scope x) (r : RelV v u)
    (h : ∀ s', Inv X pins (σ.set i (some v)) H s' → (∃ a, Heap.SameBut a s.heap s'.heap ∧ (a = X.env.locals ∨ X.env.cells.lookup x = some a)) → Q () s') (hf : X.fn x = true ∨ X.env.scope.names.lookup x = some .local := by first | exact .inl rfl | exact .inr rfl | assumption) : wpAny M A (storeName X.env x u) Q E s := by
  obtain ⟨m, hn, hl⟩ := id I.loc
  have hcls : (X.env.scope.kind == .class || (X.env.scope.kind == .module && X.env.locals != X.env.globals)) = false := by rw [I.ok.kind]; rfl
  have hiσ : i < σ.length := by rw [I.len]; exact (List.getElem?_eq_some_iff.mp hi).1
  have cne := I.cne
  have tracked : ∀ {a : Addr} {h' : Heap}, (∃ o, s.heap.get? a = some o ∧ H a = none) → Heap.SameBut a s.heap h' → HOk X.prog X.w H h' := fun {a h'} ha hs b ob e => by
    obtain ⟨_, _, hfree⟩ := ha
    refine (I.hok b ob e).stay (fun c w' hc q => (hs.2 c ?_).trans q) (fun _ q => q) fun _ _ q => q
    rintro rfl
    rcases hc with rfl | hc
    · rw [hfree] at e; cases e
    · rw [hfree] at hc; cases hc
  rcases hx with hk | hk
  · refine wpAny_storeName_local hk hn (fun h' hn' hs => ?_) hcls
    obtain ⟨oL, _, _, hoL, _⟩ := id hn
    refine h _ ⟨I.ok, I.os, I.bare, ⟨fun b o e n hb hx => ?_, fun b o e n hb hx => ?_, I.base.free, fun b o e hx => ?_, I.base.tups, I.base.frzs, I.base.tbls⟩, ⟨_, hn', fun j y v' e1 e2 e3 => ?_⟩, fun y c e => ?_, I.free, I.freeC, fun p hp => ?_, tracked ⟨oL, hoL, I.free⟩ hs, by simpa using I.len⟩ ⟨_, hs, .inl rfl⟩
    · exact (hs.2 b (Nat.ne_of_lt (Nat.lt_of_lt_of_le (Heap.lt_size e) I.ok.above))).trans (I.base.keep b o e n hb hx)
    · obtain ⟨sl, e1⟩ := I.base.slot b o e n hb hx
      exact ⟨sl, (hs.2 b (Nat.ne_of_lt (Nat.lt_of_lt_of_le (Heap.lt_size e) I.ok.above))).trans e1⟩
    · obtain ⟨o', e1⟩ := I.base.there b o e hx
      exact ⟨o', (hs.2 b (Nat.ne_of_lt (Nat.lt_of_lt_of_le (Heap.lt_size e) I.ok.above))).trans e1⟩
    · by_cases hj : j = i
      · subst hj
        rw [hi] at e1; cases e1
        rw [List.getElem?_set_self hiσ] at e2
        cases e2
        exact ⟨u, r, .inl ⟨hk, by simp⟩⟩
      · rw [List.getElem?_set_ne (Ne.symm hj)] at e2
        obtain ⟨u', r', q⟩ := hl j y v' e1 e2 e3
        refine ⟨u', r', ?_⟩
        rcases q with ⟨k, e⟩ | ⟨k, c, e, z⟩
        · refine .inl ⟨k, ?_⟩
          have : y ≠ x := fun e => hj (nodup_ix hN e1 (e ▸ hi))
          simp [this, e]
        · exact .inr ⟨k, c, e, z.sameBut hs (cne y c e)⟩
    · obtain ⟨w', z⟩ := I.cell y c e
      exact ⟨w', z.sameBut hs (cne y c e)⟩
    · obtain ⟨e, n, ne, nf, d⟩ := I.pin p hp
      exact ⟨(hs.2 p.1 ne).trans e, n, ne, nf, d⟩
  · have hfn : X.fn x = true := by
      rcases hf with z | z
      · exact z
      · rw [z] at hk; cases hk
    obtain ⟨c, hc⟩ := I.ok.has x (.inl hk)
    obtain ⟨w', z⟩ := I.cell x c hc
    refine wpAny_storeName_cell I.ok.kind hk hc z (fun h' hc' hs => ?_)
    obtain ⟨oc, hoc, hocd⟩ := id z
    refine h { s with heap := h' } ⟨I.ok, I.os, I.bare, ⟨fun b o e n hb hx => ?_, fun b o e n hb hx => ?_, I.base.free, fun b o e hx => ?_, I.base.tups, I.base.frzs, I.base.tbls⟩, ⟨m, hn.sameBut hs (Ne.symm (cne x c hc)), fun j y v' e1 e2 e3 => ?_⟩, fun y c' e => ?_, I.free, I.freeC, fun p hp => ?_, tracked ⟨oc, hoc, I.freeC x c hc⟩ hs, by simpa using I.len⟩ ⟨c, hs, .inr hc⟩
    · exact (hs.2 b (Nat.ne_of_lt (Nat.lt_of_lt_of_le (Heap.lt_size e) (I.ok.cab x c hfn hc)))).trans (I.base.keep b o e n hb hx)
    · obtain ⟨sl, e1⟩ := I.base.slot b o e n hb hx
      exact ⟨sl, (hs.2 b (Nat.ne_of_lt (Nat.lt_of_lt_of_le (Heap.lt_size e) (I.ok.cab x c hfn hc)))).trans e1⟩
    · obtain ⟨o', e1⟩ := I.base.there b o e hx
      exact ⟨o', (hs.2 b (Nat.ne_of_lt (Nat.lt_of_lt_of_le (Heap.lt_size e) (I.ok.cab x c hfn hc)))).trans e1⟩
    · by_cases hj : j = i
      · subst hj
        rw [hi] at e1; cases e1
        rw [List.getElem?_set_self hiσ] at e2
        cases e2
        exact ⟨u, r, .inr ⟨.inl hk, c, hc, hc'⟩⟩
      · rw [List.getElem?_set_ne (Ne.symm hj)] at e2
        obtain ⟨u', r', q⟩ := hl j y v' e1 e2 e3
        refine ⟨u', r', ?_⟩
        rcases q with q | ⟨k, c', e, z'⟩
        · exact .inl q
        · refine .inr ⟨k, c', e, z'.sameBut hs ?_⟩
          rintro rfl
          exact hj (nodup_ix hN e1 (I.ok.inj _ _ _ e hc ▸ hi))
    · by_cases hcc : c' = c
      · subst hcc; exact ⟨_, hc'⟩
      · obtain ⟨w2, z2⟩ := I.cell y c' e
        exact ⟨w2, z2.sameBut hs hcc⟩
    · obtain ⟨e, n, ne, nf, d⟩ := I.pin p hp
      refine ⟨(hs.2 p.1 ?_).trans e, n, ne, nf, d⟩
      intro q
      rw [q, hoc] at e
      have q' : oc = p.2 := Option.some.inj e
      exact d w' (by rw [← q']; exact hocd)
theorem store_ok {M : Model} {A : Around} {E : Value → Shared → Prop} {i : Nat} {x : Str} {v : V} {u : Value} {Q : Unit → Shared → Prop} (I : Inv X pins σ H s) (hN : X.N.Nodup) (hi : X.N[i]? = some x) (hx : Loc X.env.scope x) (r : RelV v u)
    (h : ∀ s', Inv X pins (σ.set i (some v)) H s' → Q () s') (hf : X.fn x = true ∨ X.env.scope.names.lookup x = some .local := by first | exact .inl rfl | exact .inr rfl | assumption) : wpAny M A (storeName X.env x u) Q E s :=
  store_ok2 I hN hi hx r (fun s' I' _ => h s' I') hf

theorem Inv.call' {s' : Shared} {ch : List Addr} (I : Inv X pins σ H s) (ho : s'.os = s.os) (u : Un (frs X.stack) ch H H' s.heap s'.heap) (hok : HOk X.prog X.w H' s'.heap) (hg : AllBare s'.gens)
    (hch : ∀ b ∈ ch, (b ∈ X.ex ∨ X.s₀.heap.objs.size ≤ b) ∧ b ≠ X.env.locals ∧ (∀ x c, X.env.cells.lookup x = some c → c ≠ b) ∧ ∀ p ∈ X.pn ++ pins, p.1 ≠ b) : Inv X pins σ H' s' := by
  obtain ⟨h', g', d', t', o'⟩ := s'
  have e : o' = s.os := ho
  subst e
  exact I.call (g' := g') (t' := t') (d' := d') u hok hg hch
end



abbrev XK := Value → Option Addr → Hp → Prop
abbrev St := List (Option V)
abbrev VK := V → Hp → Prop

abbrev TE := St → Hp → VK → Prop
abbrev TT := St → Hp → (Bool → Hp → Prop) → Prop
abbrev TA := St → Hp → (List V → Hp → Prop) → Prop

structure Ends where
  nx : St → Hp → Prop
  rt : VK
  bk : St → Hp → Prop := fun _ _ => False
  ct : St → Hp → Prop := fun _ _ => False
abbrev TS := Ends → St → Hp → Prop

def EP (X : Cx) (pins : List (Addr × Obj)) (σ : St) (Q : VK) (u : Value) (s' : Shared) : Prop := ∃ v H', Inv X pins σ H' s' ∧ RelV v u ∧ Q v H'
def TP (X : Cx) (pins : List (Addr × Obj)) (σ : St) (Q : Bool → Hp → Prop) (b : Bool) (s' : Shared) : Prop := ∃ H', Inv X pins σ H' s' ∧ Q b H'
def AP (X : Cx) (pins : List (Addr × Obj)) (σ : St) (Q : List V → Hp → Prop) (us : List Value) (s' : Shared) : Prop := ∃ vs H', Inv X pins σ H' s' ∧ Vals vs us ∧ Q vs H'
def SP (X : Cx) (pins : List (Addr × Obj)) (D : Ends) (f : Flow) (s' : Shared) : Prop :=
  match f with
  | .next => ∃ σ' H', Inv X pins σ' H' s' ∧ D.nx σ' H'
  | .brk => ∃ σ' H', Inv X pins σ' H' s' ∧ D.bk σ' H'
  | .cont => ∃ σ' H', Inv X pins σ' H' s' ∧ D.ct σ' H'
  | .ret u => ∃ v σ' H', Inv X pins σ' H' s' ∧ RelV v u ∧ D.rt v H'

def PE (X : Cx) (e : Expr) (t : TE) : Prop :=
  ∀ (pins : List (Addr × Obj)) (s : Shared) (σ : St) (H : Hp) (Q : VK), Inv X pins σ H s → t σ H Q → wpAny (model X.prog X.w) X.A (eval e X.env) (EP X pins σ Q) X.xe s
def PT (X : Cx) (e : Expr) (t : TT) : Prop :=
  ∀ (pins : List (Addr × Obj)) (s : Shared) (σ : St) (H : Hp) (Q : Bool → Hp → Prop), Inv X pins σ H s → t σ H Q → wpAny (model X.prog X.w) X.A (isTrue e X.env (eval e X.env)) (TP X pins σ Q) X.xe s

def PW (X : Cx) (e : Expr) (t : TT) : Prop :=
  ∀ (whole : Sem Value) (pins : List (Addr × Obj)) (s : Shared) (σ : St) (H : Hp) (Q : Bool → Hp → Prop), Inv X pins σ H s → t σ H Q → wpAny (model X.prog X.w) X.A (isTrue e X.env whole) (TP X pins σ Q) X.xe s
theorem PW.pt {X : Cx} {e : Expr} {t : TT} (h : PW X e t) : PT X e t := h _

def PA (X : Cx) (es : List Expr) (t : TA) : Prop :=
  ∀ (pos : Pos) (pins : List (Addr × Obj)) (s : Shared) (σ : St) (H : Hp) (Q : List V → Hp → Prop), Inv X pins σ H s → t σ H Q → wpAny (model X.prog X.w) X.A (spliced (backTo pos (starEach es X.env))) (AP X pins σ Q) X.xe s
def PS (X : Cx) (st : Stmt) (t : TS) : Prop :=
  ∀ (pins : List (Addr × Obj)) (s : Shared) (σ : St) (H : Hp) (D : Ends), Inv X pins σ H s → t D σ H → wpAny (model X.prog X.w) X.A (exec st X.env) (SP X pins D) X.xe s
def PSs (X : Cx) (st : List Stmt) (t : TS) : Prop :=
  ∀ (pins : List (Addr × Obj)) (s : Shared) (σ : St) (H : Hp) (D : Ends), Inv X pins σ H s → t D σ H → wpAny (model X.prog X.w) X.A (execs st X.env) (SP X pins D) X.xe s

theorem thn {α : Type} {t : Sem α} {Q Q' : α → Shared → Prop} {M : Model} {A : Around} {E : Value → Shared → Prop} {s : Shared} (h : wpAny M A t Q E s) (hQ : ∀ a s, Q a s → Q' a s) : wpAny M A t Q' E s := wpAny_mono h hQ fun _ _ x => x
end L2

namespace L2
open PySem PySem.Spec PyProof.Rows
section
variable {X : Cx}


def tVar (i : Nat) : TE := fun σ H Q => ∃ v, σ[i]? = some (some v) ∧ Q v H
def tC (v : V) : TE := fun _ H Q => Q v H
theorem pe_var {i : Nat} {x : Str} {pos : Pos} (hN : X.N[i]? = some x) (hv : Vis X.env.scope x) (hd : (x == ("__debug__" : Str)) = false := by decide) (hcd : (x == ("__classdict__" : Str)) = false := by decide) : PE X (.Name x pos) (tVar i) := by
  intro pins s σ H Q I h
  obtain ⟨v, e, h⟩ := h
  obtain ⟨m, hn, hl⟩ := I.loc
  obtain ⟨u, r, l⟩ := hl i x v hN e hv
  have fin : EP X pins σ Q u s := ⟨v, H, I, r, h⟩
  rcases l with ⟨hk, hm⟩ | ⟨hk, c, hc, hcell⟩
  · exact wpAny_Name (wpAny_loadName_local I.ok.kind hk hn hm fin) hd
  · rcases hk with hk | hk
    · exact wpAny_Name (wpAny_loadName_cell I.ok.kind hk hc hcell fin) hd
    · exact wpAny_Name (wpAny_loadName_free I.ok.kind hk hc hcell fin hcd) hd
theorem pe_int {i j pos} : PE X (.Constant (.int i) j pos) (tC (.int i)) := fun _ _ _ H _ I h => wpAny_Constant_int ⟨.int i, H, I.tok _, ⟨_, rfl⟩, h⟩
theorem pe_bl {b j pos} : PE X (.Constant (.bool b) j pos) (tC (.bl b)) := fun _ _ _ H _ I h => Constant_bool ⟨.bl b, H, I, rfl, h⟩
theorem pe_non {j pos} : PE X (.Constant .none j pos) (tC .non) := fun _ _ _ H _ I h => Constant_none ⟨.non, H, I, rfl, h⟩
theorem pe_str {x j pos} : PE X (.Constant (.str x) j pos) (tC (.str x)) := fun _ _ _ H _ I h => Calls.Constant_str ⟨.str x, H, I.tok _, ⟨_, rfl⟩, h⟩


def Gl (X : Cx) (x : Str) : Prop := X.env.kindOf x = some .globalImplicit
theorem ld_glob {E : Value → Shared → Prop} {pins : List (Addr × Obj)} {s : Shared} {σ : St} {H : Hp} {x : Str} {u : Value} {pos : Pos} {Q : Value → Shared → Prop} (I : Inv X pins σ H s) (hg : Gl X x) (hm : X.mg x = some u) (h : Q u s)
    (hd : (x == ("__debug__" : Str)) = false := by decide) : wpAny (model X.prog X.w) X.A (eval (.Name x pos) X.env) Q E s :=
  Calls.Name_function_global I.ok.kind hg (Calls.loadGlobal_global (by rw [I.ok.glob]; exact I.mod.glob.keeps I.bk) hm h) hd
theorem ld_blt {E : Value → Shared → Prop} {pins : List (Addr × Obj)} {s : Shared} {σ : St} {H : Hp} {x : Str} {u : Value} {pos : Pos} {Q : Value → Shared → Prop} (I : Inv X pins σ H s) (hg : Gl X x) (hm : X.mg x = none) (hv : bootBuiltins x = some u) (h : Q u s)
    (hn : x ≠ "__name__" := by decide) (hd : (x == ("__debug__" : Str)) = false := by decide) : wpAny (model X.prog X.w) X.A (eval (.Name x pos) X.env) Q E s := by
  obtain ⟨mb, h1, h2⟩ := I.mod.blt
  exact Calls.Name_function_global I.ok.kind hg (Calls.loadGlobal_builtin (by rw [I.ok.glob]; exact I.mod.glob.keeps I.bk) hm (by rw [I.ok.blt]; exact h1.keeps I.bk) ((h2 x hn).trans hv) h) hd

theorem pe_glob {x : Str} {v : V} {u : Value} {pos : Pos} (hg : Gl X x) (hm : X.mg x = some u) (r : RelV v u) (hd : (x == ("__debug__" : Str)) = false := by decide) : PE X (.Name x pos) (tC v) :=
  fun _ _ _ H _ I h => ld_glob I hg hm ⟨v, H, I, r, h⟩ hd
theorem pe_bltn {x : Str} {v : V} {u : Value} {pos : Pos} (hg : Gl X x) (hm : X.mg x = none) (hv : bootBuiltins x = some u) (r : RelV v u) (hn : x ≠ "__name__" := by decide) (hd : (x == ("__debug__" : Str)) = false := by decide) : PE X (.Name x pos) (tC v) :=
  fun _ _ _ H _ I h => ld_blt I hg hm hv ⟨v, H, I, r, h⟩ hn hd



def t2I (ta tb : TE) (k : Int → Int → Hp → Prop) : St → Hp → Prop := fun σ H => ta σ H fun x H1 => tb σ H1 fun y H2 => ∃ i j, x = .int i ∧ y = .int j ∧ k i j H2
def tAdd (ta tb : TE) : TE := fun σ H Q => t2I ta tb (fun i j H2 => Q (.int (i + j)) H2) σ H
def tSub (ta tb : TE) : TE := fun σ H Q => t2I ta tb (fun i j H2 => Q (.int (i - j)) H2) σ H

def tMul (ta tb : TE) : TE := fun σ H Q => t2I ta tb (fun i j H2 => (-(2 ^ 64) < i ∧ i < 2 ^ 64) ∧ Q (.int (i * j)) H2) σ H
variable {a b : Expr} {ta tb : TE} {pos : Pos}
def PC (X : Cx) (op : CmpOp) (a b : Expr) (t : TE) : Prop :=
  ∀ (pins : List (Addr × Obj)) (s : Shared) (σ : St) (H : Hp) (Q : VK), Inv X pins σ H s → t σ H Q →
    wpAny (model X.prog X.w) X.A (eval a X.env) (fun v s₁ => wpAny (model X.prog X.w) X.A (eval b X.env) (fun u s₂ => wpAny (model X.prog X.w) X.A (compareOp op v u) (EP X pins σ Q) X.xe s₂) X.xe s₁) X.xe s
def tCmp (p : Int → Int → Bool) (ta tb : TE) : TE := fun σ H Q => t2I ta tb (fun i j H2 => Q (.bl (p i j)) H2) σ H
abbrev tLt : TE → TE → TE := tCmp fun i j => decide (i < j)
abbrev tLe : TE → TE → TE := tCmp fun i j => decide (i ≤ j)
abbrev tGt : TE → TE → TE := tCmp fun i j => decide (j < i)
abbrev tGe : TE → TE → TE := tCmp fun i j => decide (j ≤ i)
abbrev tEqI : TE → TE → TE := tCmp fun i j => decide (i = j)
abbrev tNeI : TE → TE → TE := tCmp fun i j => !decide (i = j)

def tIsN (ta : TE) : TE := fun σ H Q => ta σ H fun x H1 => Q (.bl (decide (x = .non))) H1
def tNotN (ta : TE) : TE := fun σ H Q => ta σ H fun x H1 => Q (.bl (!decide (x = .non))) H1
def tB (t : TE) : TT := fun σ H Q => t σ H fun x H1 => ∃ c, x = .bl c ∧ Q c H1
theorem pt_val {e : Expr} {t : TE} (h : PE X e t) (he : ∀ whole, isTrue e X.env whole = (do let v ← whole; standAt e.pos; holding [v] (truthy v)) := by intro _; rfl) : PT X e (tB t) := by
  intro pins s σ H Q I hw
  refine isTrue_plain (thn (h pins s σ H _ I hw) fun v s1 ⟨x, H1, I1, r1, q1⟩ => ?_) (he _)
  obtain ⟨d, rfl, q⟩ := q1
  cases r1
  exact wpAny_truthy_bool ⟨H1, I1, q⟩


variable {tA tB' : TT} {rest : List Expr}
def tAnd (t u : TT) : TT := fun σ H Q => t σ H fun c H1 => if c = true then u σ H1 Q else Q false H1
def tOr (t u : TT) : TT := fun σ H Q => t σ H fun c H1 => if c = true then Q true H1 else u σ H1 Q
def tNot (t : TT) : TT := fun σ H Q => t σ H fun c H1 => Q (!c) H1
theorem pw_and1 (ha : PT X a tA) : PW X (.BoolOp .And [a] pos) tA := by
  intro wh pins s σ H Q I h
  refine isTrue_and (thn (ha pins s σ H Q I h) fun c s1 e => ?_)
  cases c with
  | true => exact isTrue_and_nil e
  | false => exact e
theorem pw_or1 (ha : PT X a tA) : PW X (.BoolOp .Or [a] pos) tA := by
  intro wh pins s σ H Q I h
  refine isTrue_or (thn (ha pins s σ H Q I h) fun c s1 e => ?_)
  cases c with
  | false => exact isTrue_or_nil e
  | true => exact e
theorem pw_and (ha : PT X a tA) (hb : PW X (.BoolOp .And (b :: rest) pos) tB') : PW X (.BoolOp .And (a :: b :: rest) pos) (tAnd tA tB') := by
  intro wh pins s σ H Q I h
  refine isTrue_and (thn (ha pins s σ H _ I h) fun c s1 ⟨H1, I1, q1⟩ => ?_)
  cases c with
  | true => exact hb wh pins s1 σ H1 Q I1 q1
  | false => exact ⟨H1, I1, q1⟩
theorem pw_or (ha : PT X a tA) (hb : PW X (.BoolOp .Or (b :: rest) pos) tB') : PW X (.BoolOp .Or (a :: b :: rest) pos) (tOr tA tB') := by
  intro wh pins s σ H Q I h
  refine isTrue_or (thn (ha pins s σ H _ I h) fun c s1 ⟨H1, I1, q1⟩ => ?_)
  cases c with
  | true => exact ⟨H1, I1, q1⟩
  | false => exact hb wh pins s1 σ H1 Q I1 q1
theorem pt_not (ha : PT X a tA) : PT X (.UnaryOp .Not a pos) (tNot tA) := by
  intro pins s σ H Q I h
  exact isTrue_not (ha pins s σ H (fun c H1 => Q (!c) H1) I h)

def tAndV (ta tb : TE) : TE := fun σ H Q => ta σ H fun x H1 => ∃ c, x = .bl c ∧ if c = true then tb σ H1 Q else Q (.bl false) H1
def tOrV (ta tb : TE) : TE := fun σ H Q => ta σ H fun x H1 => ∃ c, x = .bl c ∧ if c = true then Q (.bl true) H1 else tb σ H1 Q
def tNotV (ta : TE) : TE := fun σ H Q => ta σ H fun x H1 => ∃ c, x = .bl c ∧ Q (.bl (!c)) H1
theorem pe_one {op} {t : TE} (h : PE X a t) : PE X (.BoolOp op [a] pos) t := fun pins s σ H Q I hw => BoolOp_one (h pins s σ H Q I hw)
theorem pe_and (ha : PE X a ta) (hb : PE X (.BoolOp .And (b :: rest) pos) tb) : PE X (.BoolOp .And (a :: b :: rest) pos) (tAndV ta tb) := by
  intro pins s σ H Q I h
  refine BoolOp_and (thn (ha pins s σ H _ I h) fun v s1 ⟨x, H1, I1, r1, q1⟩ => ?_)
  obtain ⟨c, rfl, q1⟩ := q1
  cases r1
  refine wpAny_truthy_bool ?_
  cases c with
  | true => exact hb pins s1 σ H1 Q I1 q1
  | false => exact ⟨.bl false, H1, I1, rfl, q1⟩
theorem pe_not (ha : PE X a ta) : PE X (.UnaryOp .Not a pos) (tNotV ta) := by
  intro pins s σ H Q I h
  refine UnaryOp_ (thn (ha pins s σ H _ I h) fun v s1 ⟨x, H1, I1, r1, q1⟩ => ?_)
  obtain ⟨c, rfl, q1⟩ := q1
  cases r1
  exact not_of (wpAny_truthy_bool ⟨.bl (!c), H1, I1, rfl, q1⟩)

def tIf (t : TT) (ta tb : TE) : TE := fun σ H Q => t σ H fun c H1 => if c = true then ta σ H1 Q else tb σ H1 Q
theorem pe_ifExp {c : Expr} (hc : PT X c tA) (ha : PE X a ta) (hb : PE X b tb) : PE X (.IfExp c a b pos) (tIf tA ta tb) := by
  intro pins s σ H Q I h
  refine wpAny_IfExp (thn (hc pins s σ H _ I h) fun d s1 ⟨H1, I1, q1⟩ => ?_)
  cases d with
  | true => exact ha pins s1 σ H1 Q I1 q1
  | false => exact hb pins s1 σ H1 Q I1 q1
end
end L2

namespace L2
open PySem PySem.Spec PyProof.Rows


def SqL (K : PySem.W.Frag) (H : Hp) (a : Addr) (xs : List V) : Prop :=
  Rd H a (.lst xs) ∨
    ∃ (o : Obj) (its : Array Value) (n : Nat), K.lookup a = some o ∧ o.cls = .type "list" ∧ o.dict = none ∧ o.data = .seq its n ∧ its.size ≤ sizeLine ∧ Vals xs its.toList
def SqT (K : PySem.W.Frag) (H : Hp) (a : Addr) (xs : List V) : Prop :=
  Rd H a (.tup xs) ∨
    ∃ (o : Obj) (its : Array Value) (n : Nat), K.lookup a = some o ∧ o.cls = .type "tuple" ∧ o.dict = none ∧ o.data = .seq its n ∧ its.size ≤ sizeLine ∧ Vals xs its.toList
def absV : Value → Option V
  | .none => some .non
  | .bool b => some (.bl b)
  | .int i _ => some (.int i)
  | .str x _ => some (.str x)
  | .bytes b _ => some (.byt b)
  | .float b _ => some (.flt b)
  | .ref a => some (.ref a)
  | .type n => some (.ty n)
  | _ => none
theorem RelV.abs {x : V} {u : Value} (r : RelV x u) : absV u = some x := by
  cases x with
  | non => cases r; rfl
  | bl _ => cases r; rfl
  | int _ => obtain ⟨t, rfl⟩ := r; rfl
  | str _ => obtain ⟨t, rfl⟩ := r; rfl
  | byt _ => obtain ⟨t, rfl⟩ := r; rfl
  | flt _ => obtain ⟨t, rfl⟩ := r; rfl
  | ref _ => cases r; rfl
  | ty _ => cases r; rfl
theorem RelV.inj {x y : V} {u : Value} (r : RelV x u) (q : RelV y u) : x = y := Option.some.inj (r.abs.symm.trans q.abs)
theorem Vals.inj : ∀ {xs ys : List V} {us : List Value}, Vals xs us → Vals ys us → xs = ys
  | _, _, _, .nil, .nil => rfl
  | _, _, _, .cons r t, .cons r' t' => by rw [r.inj r', Vals.inj t t']
section
variable {X : Cx} {pins : List (Addr × Obj)} {σ : St} {H : Hp} {s : Shared} {a : Addr} {xs ys : List V}
theorem SqL.of {K : PySem.W.Frag} (h : H a = some (.lst xs)) : SqL K H a xs := .inl (.inl h)
theorem SqT.of {K : PySem.W.Frag} (h : H a = some (.tup xs)) : SqT K H a xs := .inl (.inl h)
theorem Inv.list (I : Inv X pins σ H s) (h : SqL X.K H a xs) : ∃ its : List Value, Vals xs its ∧ PlainL s.heap a its.toArray ∧ xs.length ≤ sizeLine := by
  rcases h with h | ⟨o, its, n, hk, hc, hd, hs, hz, r⟩
  · obtain ⟨z, its, n, r, e⟩ := h.ok I.hok
    exact ⟨its, r, ⟨_, n, e, rfl, rfl, rfl⟩, z⟩
  · refine ⟨its.toList, r, ⟨o, n, I.kIn a o hk, hc, hd, by simpa using hs⟩, ?_⟩
    have e := r.length
    simp only [Array.length_toList] at e
    omega
theorem Inv.tuple (I : Inv X pins σ H s) (h : SqT X.K H a xs) : ∃ its : List Value, Vals xs its ∧ IsTup s.heap a its.toArray ∧ xs.length ≤ sizeLine := by
  rcases h with h | ⟨o, its, n, hk, hc, _, hs, hz, r⟩
  · obtain ⟨z, its, r, p⟩ := h.ok I.hok
    exact ⟨its, r, p.tup, z⟩
  · refine ⟨its.toList, r, ⟨o, I.kIn a o hk, hc, n, by simpa using hs⟩, ?_⟩
    have e := r.length
    simp only [Array.length_toList] at e
    omega
theorem Inv.list_inj (I : Inv X pins σ H s) (h : SqL X.K H a xs) (h' : SqL X.K H a ys) : xs = ys := by
  obtain ⟨its, r, ⟨o, n, e, _, _, d⟩, _⟩ := I.list h
  obtain ⟨its', r', ⟨o', n', e', _, _, d'⟩, _⟩ := I.list h'
  rw [e] at e'; cases e'
  rw [d] at d'
  injection d' with d1 _
  have : its = its' := by simpa using congrArg Array.toList d1
  subst this
  exact r.inj r'
theorem Inv.tuple_inj (I : Inv X pins σ H s) (h : SqT X.K H a xs) (h' : SqT X.K H a ys) : xs = ys := by
  obtain ⟨its, r, ⟨o, e, _, n, d⟩, _⟩ := I.tuple h
  obtain ⟨its', r', ⟨o', e', _, n', d'⟩, _⟩ := I.tuple h'
  rw [e] at e'; cases e'
  rw [d] at d'
  injection d' with d1 _
  have : its = its' := by simpa using congrArg Array.toList d1
  subst this
  exact r.inj r'
end


abbrev Cx.wish (X : Cx) (E : Value → Shared → Prop) : Cx := { X with xe := E }

abbrev Cx.nox (X : Cx) : Cx := X.wish fun _ _ => False
theorem Cx.Ok.wish {X : Cx} (ok : X.Ok) (E : Value → Shared → Prop) : (X.wish E).Ok :=
  ⟨ok.mod, ok.kind, ok.glob, ok.blt, ok.above, ok.inj, ok.has, ok.cab, ok.hd, ok.frames, ok.stk, ok.exf, ok.bs, ok.bsz, ok.noex, ok.exfs, ok.funs, ok.frf⟩
theorem Cx.Ok.unwish {X : Cx} {E : Value → Shared → Prop} (ok : (X.wish E).Ok) : X.Ok :=
  ⟨ok.mod, ok.kind, ok.glob, ok.blt, ok.above, ok.inj, ok.has, ok.cab, ok.hd, ok.frames, ok.stk, ok.exf, ok.bs, ok.bsz, ok.noex, ok.exfs, ok.funs, ok.frf⟩
section
variable {X : Cx} {pins : List (Addr × Obj)} {σ : St} {H : Hp} {s : Shared} {E : Value → Shared → Prop}
theorem Inv.wish (I : Inv X pins σ H s) (E : Value → Shared → Prop) : Inv (X.wish E) pins σ H s := ⟨I.ok.wish E, I.os, I.bare, I.base, I.loc, I.cell, I.free, I.freeC, I.pin, I.hok, I.len⟩
theorem Inv.unwish (I : Inv (X.wish E) pins σ H s) : Inv X pins σ H s := ⟨I.ok.unwish, I.os, I.bare, I.base, I.loc, I.cell, I.free, I.freeC, I.pin, I.hok, I.len⟩
theorem SP.unwish {D : Ends} {f : Flow} {s' : Shared} (h : SP (X.wish E) pins D f s') : SP X pins D f s' := by
  cases f with
  | next => obtain ⟨σ', H', I, q⟩ := h; exact ⟨σ', H', I.unwish, q⟩
  | brk => obtain ⟨σ', H', I, q⟩ := h; exact ⟨σ', H', I.unwish, q⟩
  | cont => obtain ⟨σ', H', I, q⟩ := h; exact ⟨σ', H', I.unwish, q⟩
  | ret u => obtain ⟨v, σ', H', I, r, q⟩ := h; exact ⟨v, σ', H', I.unwish, r, q⟩
theorem PE.nox {e : Expr} {t : TE} (h : PE X.nox e t) : PE X e t := fun pins s σ H Q I hw =>
  wpAny_mono (h pins s σ H Q (I.wish _) hw) (fun _ _ ⟨v, H', I', r, q⟩ => ⟨v, H', I'.unwish, r, q⟩) fun _ _ z => False.elim z
theorem PT.nox {e : Expr} {t : TT} (h : PT X.nox e t) : PT X e t := fun pins s σ H Q I hw =>
  wpAny_mono (h pins s σ H Q (I.wish _) hw) (fun _ _ ⟨H', I', q⟩ => ⟨H', I'.unwish, q⟩) fun _ _ z => False.elim z
theorem PSs.nox {st : List Stmt} {t : TS} (h : PSs X.nox st t) : PSs X st t := fun pins s σ H D I hw =>
  wpAny_mono (h pins s σ H D (I.wish _) hw) (fun _ _ q => q.unwish) fun _ _ z => False.elim z
end


section
variable {X : Cx} {st : Stmt} {rest : List Stmt} {t u : TS} {e : Expr} {te : TE} {pos : Pos}
def tNext : TS := fun D σ H => D.nx σ H
def tSeq (t u : TS) : TS := fun D σ H => t { D with nx := u D } σ H
theorem pss_nil : PSs X [] tNext := fun _ _ σ H _ I h => wpAny_execs_nil ⟨σ, H, I, h⟩
theorem pss_cons (h1 : PS X st t) (h2 : PSs X rest u) : PSs X (st :: rest) (tSeq t u) := by
  intro pins s σ H D I h
  refine wpAny_execs_cons (thn (h1 pins s σ H { D with nx := u D } I h) fun f s1 q => ?_)
  cases f with
  | next =>
    obtain ⟨σ', H', I', q⟩ := q
    exact h2 pins s1 σ' H' D I' q
  | ret v => exact q
  | brk => exact q
  | cont => exact q
theorem pss_one (h1 : PS X st t) : PSs X [st] t := by
  intro pins s σ H D I h
  refine wpAny_execs_cons (thn (h1 pins s σ H D I h) fun f s1 q => ?_)
  cases f with
  | next => exact wpAny_execs_nil q
  | ret v => exact q
  | brk => exact q
  | cont => exact q
def tBreak : TS := fun D σ H => D.bk σ H
def tCont : TS := fun D σ H => D.ct σ H
theorem Inv.quiet {pins : List (Addr × Obj)} {σ : St} {H : Hp} {s : Shared} (I : Inv X pins σ H s) : interactive X.env = false := by simp [interactive, I.ok.kind]

def tDrop (te : TE) : TS := fun D σ H => te σ H fun _ H1 => D.nx σ H1
theorem ps_expr (he : PE X e te) (hs : swapsWith e none pos.line X.env = pure false := by rfl) : PS X (.Expr e pos) (tDrop te) := by
  intro pins s σ H D I h
  exact wpAny_Expr_any (thn (he pins s σ H _ I h) fun v s1 ⟨x, H1, I1, r1, q1⟩ => ⟨σ, H1, I1, q1⟩) I.quiet hs
def tRet (te : TE) : TS := fun D σ H => te σ H D.rt
theorem ps_ret (he : PE X e te) : PS X (.Return (some e) pos) (tRet te) := by
  intro pins s σ H D I h
  exact wpAny_Return_some (thn (he pins s σ H _ I h) fun v s1 ⟨x, H1, I1, r1, q1⟩ => ⟨x, σ, H1, I1, r1, q1⟩)
def tRetN : TS := fun D _ H => D.rt .non H
def tIfS (c : TT) (t u : TS) : TS := fun D σ H => c σ H fun b H1 => if b = true then t D σ H1 else u D σ H1
theorem ps_if {c : Expr} {a b : List Stmt} {tc : TT} (hc : PT X c tc) (ha : PSs X a t) (hb : PSs X b u) : PS X (.If c a b pos) (tIfS tc t u) := by
  intro pins s σ H D I h
  refine wpAny_If (thn (hc pins s σ H _ I h) fun d s1 ⟨H1, I1, q1⟩ => ?_)
  cases d with
  | true => exact ha pins s1 σ H1 D I1 q1
  | false => exact hb pins s1 σ H1 D I1 q1

def tNever : TS := fun _ _ _ => False
theorem ps_never : PS X st tNever := fun _ _ _ _ _ _ h => h.elim
end


abbrev TG := V → St → Hp → (St → Hp → Prop) → Prop
abbrev TGs := List V → St → Hp → (St → Hp → Prop) → Prop
def PG (X : Cx) (target : Expr) (t : TG) : Prop :=
  ∀ (pins : List (Addr × Obj)) (s : Shared) (σ : St) (H : Hp) (v : V) (u : Value) (Q : St → Hp → Prop), Inv X pins σ H s → RelV v u → t v σ H Q →
    wpAny (model X.prog X.w) X.A (assign target X.env u) (fun _ s' => ∃ σ' H', Inv X pins σ' H' s' ∧ Q σ' H') X.xe s

def PGs (X : Cx) (ts : List Expr) (t : TGs) : Prop :=
  ∀ (pins : List (Addr × Obj)) (s : Shared) (σ : St) (H : Hp) (vs : List V) (us : List Value) (Q : St → Hp → Prop), Inv X pins σ H s → Vals vs us → t vs σ H Q →
    wpAny (model X.prog X.w) X.A (assignInOrder ((assignEach ts X.env).map (·.2)) us) (fun _ s' => ∃ σ' H', Inv X pins σ' H' s' ∧ Q σ' H') X.xe s

abbrev TSet := V → V → V → Hp → (Hp → Prop) → Prop
def PSet (X : Cx) (t : TSet) : Prop :=
  ∀ (pins : List (Addr × Obj)) (s : Shared) (σ : St) (H : Hp) (o i v : V) (ov iv u : Value) (Q : Hp → Prop), Inv X pins σ H s → RelV o ov → RelV i iv → RelV v u → t o i v H Q →
    wpAny (model X.prog X.w) X.A (setItem ov iv u) (fun _ s' => ∃ H', Inv X pins σ H' s' ∧ Q H') X.xe s

abbrev TIp := V → V → Hp → VK → Prop
def PIp (X : Cx) (op : Operator) (t : TIp) : Prop :=
  ∀ (pins : List (Addr × Obj)) (s : Shared) (σ : St) (H : Hp) (x y : V) (v u : Value) (Q : VK), Inv X pins σ H s → RelV x v → RelV y u → t x y H Q →
    wpAny (model X.prog X.w) X.A (inplaceOp op v u) (EP X pins σ Q) X.xe s
section
variable {X : Cx} {pos : Pos}
def gName (i : Nat) : TG := fun v σ H Q => Q (σ.set i (some v)) H
theorem pg_name {i : Nat} {x : Str} (hN : X.N.Nodup) (hi : X.N[i]? = some x) (hx : Loc X.env.scope x) (hf : X.fn x = true ∨ X.env.scope.names.lookup x = some .local := by first | exact .inl rfl | exact .inr rfl | assumption) : PG X (.Name x pos) (gName i) := by
  intro pins s σ H v u Q I r h
  exact wpAny_assign_Name (store_ok I hN hi hx r (fun s' I' => ⟨_, H, I', h⟩) hf)
def gNil : TGs := fun vs σ H Q => vs = [] ∧ Q σ H
def gCons (t : TG) (u : TGs) : TGs := fun vs σ H Q => ∃ v r, vs = v :: r ∧ t v σ H fun σ' H' => u r σ' H' Q
theorem pgs_nil : PGs X [] gNil := by
  intro pins s σ H vs us Q I r h
  obtain ⟨e, h⟩ := h
  subst e
  cases r
  exact assignInOrder_nil ⟨σ, H, I, h⟩
theorem pgs_cons {e : Expr} {es : List Expr} {t : TG} {u : TGs} (h1 : PG X e t) (h2 : PGs X es u)
    (hs : (assignEach (e :: es) X.env).map (·.2) = assign e X.env :: (assignEach es X.env).map (·.2) := by rfl) : PGs X (e :: es) (gCons t u) := by
  intro pins s σ H vs us Q I r h
  obtain ⟨v, vr, e1, h⟩ := h
  subst e1
  cases r with
  | cons r rr =>
    rw [hs]
    refine assignInOrder_cons (thn (h1 pins s σ H _ _ _ I r h) fun _ s1 ⟨σ1, H1, I1, q1⟩ => ?_)
    exact h2 pins s1 σ1 H1 _ _ Q I1 rr q1

def gTup (K : PySem.W.Frag) (n : Nat) (t : TGs) : TG := fun v σ H Q => ∃ a xs, v = .ref a ∧ SqT K H a xs ∧ xs.length = n ∧ t xs σ H Q
theorem pg_tup {es : List Expr} {k : Nat} {t : TGs} {n : Nat} (hc : X.calm = true) (h : PGs X es t)
    (hn : (assignEach es X.env).length = n := by rfl) (hst : (assignEach es X.env).findIdx? (·.1) = none := by rfl) : PG X (.Tuple es k pos) (gTup X.K n t) := by
  intro pins s σ H v u Q I r hw
  obtain ⟨a, xs, e1, hq, hl, hw⟩ := hw
  subst e1
  cases r
  obtain ⟨its, rv, ht, hz⟩ := I.tuple hq
  refine assign_Tuple_tuple (I.ok.hd hc) ht (by simp [hn, ← hl, rv.length]) hst fun h' hx => ?_
  have I1 : Inv X pins σ H { s with heap := h' } := I.kept (t' := s.toks) fun b o e => hx b o (Nat.ne_of_lt (Heap.lt_size e)) e
  exact h pins _ σ H xs _ Q I1 (by simpa using rv) hw

def gSub (to ti : TE) (t : TSet) : TG := fun v σ H Q => to σ H fun o H1 => ti σ H1 fun i H2 => t o i v H2 fun H3 => Q σ H3
theorem pg_sub {o i : Expr} {to ti : TE} {t : TSet} (ho : PE X o to) (hi : PE X i ti) (hs : PSet X t)
    (ha : ∀ v, assign (.Subscript o i pos) X.env v = (do
      let ov ← holding [v] (eval o X.env)
      let iv ← holding [v, ov] (eval i X.env)
      standAt pos
      holding [v, ov, iv] (setItem ov iv v)
      release [v, ov, iv] []) := by intro _; rfl) : PG X (.Subscript o i pos) (gSub to ti t) := by
  intro pins s σ H v u Q I r h
  rw [ha]
  refine wpAny_bind (wpAny_holding (thn (ho pins s σ H _ I h) fun ov s1 ⟨x, H1, I1, r1, q1⟩ => ?_))
  refine wpAny_bind (wpAny_holding (thn (hi pins s1 σ H1 _ I1 q1) fun iv s2 ⟨y, H2, I2, r2, q2⟩ => ?_))
  refine wpAny_bind (wpAny_standAt (wpAny_bind (wpAny_holding (thn (hs pins s2 σ H2 x y v ov iv u _ I2 r1 r2 r q2) fun _ s3 ⟨H3, I3, q3⟩ => ?_))))
  exact wpAny_release ⟨σ, H3, I3, q3⟩

def tAsg (te : TE) (g : TG) : TS := fun D σ H => te σ H fun x H1 => g x σ H1 D.nx
theorem ps_asg {tg e : Expr} {te : TE} {g : TG} (he : PE X e te) (hg : PG X tg g) (hs : swapsWithSole [tg] e pos.line X.env = pure false := by rfl) (hw : swappedStores [tg] e X.env = pure none := by rfl)
    (h1 : (assignEach [tg] X.env).map (·.2) = [assign tg X.env] := by rfl) : PS X (.Assign [tg] e pos) (tAsg te g) := by
  intro pins s σ H D I h
  refine wpAny_Assign_stores (thn (he pins s σ H _ I h) fun v s1 ⟨x, H1, I1, r1, q1⟩ => ?_) hs hw
  rw [h1]
  exact thn (hg pins s1 σ H1 x v _ I1 r1 q1) fun _ s2 q => q

theorem ps_set {i : Nat} {x : Str} {e : Expr} {te : TE} {pos' : Pos} (hN : X.N.Nodup) (hi : X.N[i]? = some x) (hx : Loc X.env.scope x) (he : PE X e te) (hs : swapsWith e (some (.Name x pos')) pos.line X.env = pure false := by rfl) (hf : X.fn x = true ∨ X.env.scope.names.lookup x = some .local := by first | exact .inl rfl | exact .inr rfl | assumption) :
    PS X (.Assign [.Name x pos'] e pos) (tAsg te (gName i)) := by
  intro pins s σ H D I h
  refine wpAny_Assign_Name (thn (he pins s σ H _ I h) fun v s1 ⟨y, H1, I1, r1, q1⟩ => ?_) hs
  exact store_ok I1 hN hi hx r1 (fun s2 I2 => ⟨_, H1, I2, q1⟩) hf

def tPar (i j : Nat) (ta : TA) : TS := fun D σ H => ta σ H fun vs H1 => ∃ v w, vs = [v, w] ∧ D.nx ((σ.set i (some v)).set j (some w)) H1
def tAug (i : Nat) (te : TE) (ti : TIp) : TS := fun D σ H => ∃ x, σ[i]? = some (some x) ∧ te σ H fun y H1 => ti x y H1 fun z H2 => D.nx (σ.set i (some z)) H2
def tAugS (to ti te : TE) (tget : V → V → Hp → VK → Prop) (tip : TIp) (tset : TSet) : TS := fun D σ H => to σ H fun o H1 => ti σ H1 fun i H2 => tget o i H2 fun x H3 => te σ H3 fun y H4 => tip x y H4 fun z H5 => tset o i z H5 fun H6 => D.nx σ H6

def PGet (X : Cx) (t : V → V → Hp → VK → Prop) : Prop :=
  ∀ (pins : List (Addr × Obj)) (s : Shared) (σ : St) (H : Hp) (o i : V) (ov iv : Value) (Q : VK), Inv X pins σ H s → RelV o ov → RelV i iv → t o i H Q →
    wpAny (model X.prog X.w) X.A (getItem ov iv) (EP X pins σ Q) X.xe s
def ipI (f : Int → Int → Int) : TIp := fun x y H Q => ∃ i j, x = .int i ∧ y = .int j ∧ Q (.int (f i j)) H
end


section
variable {X : Cx} {pos : Pos}

def tWhile (c : TT) (tb : TS) : TS := fun D σ H => ∃ W : Nat → St → Hp → Prop, (∃ m, W m σ H) ∧ ∀ m σ H, W m σ H →
  c σ H fun b H1 => if b = true then ∃ N : St → Hp → Prop, (∀ σ' H', N σ' H' → ∃ m', m' < m ∧ W m' σ' H') ∧ tb { D with nx := N, ct := N, bk := D.nx } σ H1 else D.nx σ H1
end



structure It where
  go : Nat → Hp → Prop
  yld : Nat → Hp → V → Hp → Prop
  stop : Nat → Hp → Prop

def FpOk (X : Cx) (pins : List (Addr × Obj)) (H : Hp) (b : Addr) : Prop :=
  H b = none ∧ b ≠ X.env.locals ∧ b ∉ X.fs ∧ (b ∈ X.ex ∨ X.s₀.heap.objs.size ≤ b) ∧ (∀ x c, X.env.cells.lookup x = some c → c ≠ b) ∧ ∀ p ∈ X.pn ++ pins, p.1 ≠ b
theorem Inv.fpOk {X : Cx} {pins : List (Addr × Obj)} {σ : St} {H H' : Hp} {s : Shared} {b : Addr} (I : Inv X pins σ H s) (hb : s.heap.objs.size ≤ b) (hn : H' b = none) : FpOk X pins H' b := by
  refine ⟨hn, Nat.ne_of_gt (Nat.lt_of_lt_of_le I.lt hb), I.nofs hb, .inr (Nat.le_trans I.sz hb), fun x c e z => ?_, fun p hp z => ?_⟩
  · obtain ⟨v, q⟩ := I.cell x c e
    exact absurd (Nat.lt_of_lt_of_le q.lt (by rw [z]; exact hb)) (Nat.lt_irrefl _)
  · exact absurd (Nat.lt_of_lt_of_le (Heap.lt_size (I.pin p hp).1) (by rw [z]; exact hb)) (Nat.lt_irrefl _)
structure Turn (P : Program) (w : World) (K : PySem.W.Frag) (tg : Expr) (J : It) (fp : List Addr) (it : Addr) (tn : Nat → Heap → Prop) : Prop where
  mem : it ∈ fp
  obj : ∀ i h, tn i h → ∀ b ∈ fp, ∃ o, h.get? b = some o ∧ ∀ v, o.data ≠ .cell v
  keep : ∀ i h h', tn i h → (∀ b ∈ fp, ∀ o, h.get? b = some o → h'.get? b = some o) → tn i h'
  item : ∀ (X : Cx), X.prog = P → X.w = w → X.K = K → X.calm = true → ∀ (i : Nat) (pins : List (Addr × Obj)) (s : Shared) (σ : St) (H : Hp) (E : Value → Shared → Prop), Inv X pins σ H s → (∀ b ∈ fp, FpOk X pins H b) → tn i s.heap → J.go i H →
    wpAny (model P w) X.A (pyNext (.ref it)) (fun r s1 => ∃ u, r = some u ∧
      wpAny (model P w) X.A (letOwnedTupleGo tg (.ref it) u) (fun _ s2 => ∃ x H', Inv X pins σ H' s2 ∧ RelV x u ∧ J.yld i H x H' ∧ tn (i + 1) s2.heap ∧ ∀ b ∈ fp, H' b = none) E s1) E s
  done : ∀ (X : Cx), X.prog = P → X.w = w → X.K = K → X.calm = true → ∀ (i : Nat) (pins : List (Addr × Obj)) (s : Shared) (σ : St) (H : Hp) (E : Value → Shared → Prop), Inv X pins σ H s → (∀ b ∈ fp, FpOk X pins H b) → tn i s.heap → J.stop i H →
    wpAny (model P w) X.A (pyNext (.ref it)) (fun r s1 => r = none ∧ Inv X pins σ H s1) E s
  self : ∀ (A : Around) (i : Nat) (s : Shared) (Q : Value → Shared → Prop) (E : Value → Shared → Prop), tn i s.heap → Q (.ref it) s → wpAny (model P w) A (pyIter (.ref it)) Q E s
abbrev TI := St → Hp → (It → Hp → Prop) → Prop

def PIE (X : Cx) (pins : List (Addr × Obj)) (σ : St) (tg : Expr) (R : It → Hp → Prop) (itv : Value) (s2 : Shared) : Prop :=
  ∃ (it : Addr) (fp : List Addr) (tn : Nat → Heap → Prop) (J : It) (H' : Hp), itv = .ref it ∧ Inv X pins σ H' s2 ∧ Turn X.prog X.w X.K tg J fp it tn ∧ tn 0 s2.heap ∧ (∀ b ∈ fp, FpOk X pins H' b) ∧ R J H'
def PI (X : Cx) (tg iter : Expr) (wi : TI) : Prop :=
  ∀ (pins : List (Addr × Obj)) (s : Shared) (σ : St) (H : Hp) (R : It → Hp → Prop), Inv X pins σ H s → wi σ H R →
    wpAny (model X.prog X.w) X.A (eval iter X.env) (fun v s1 => wpAny (model X.prog X.w) X.A (pyIter v) (PIE X pins σ tg R) X.xe s1) X.xe s


theorem go_of {M : Model} {A : Around} {E : Value → Shared → Prop} {s : Shared} {tg : Expr} {it : Addr} {u : Value} {o : Obj} {n : String} {vs : Array Value} {Q : Unit → Shared → Prop} (ho : s.heap.get? it = some o) (hc : o.cls = .type n) (hd : o.data = .fields vs)
    (hn : ["enumerate", "zip", "dict_itemiterator", "dict_reverseitemiterator", "odict_iterator", "itertools.zip_longest", "itertools.pairwise"].contains n = false) (hQ : Q () s) : wpAny M A (letOwnedTupleGo tg (.ref it) u) Q E s := by
  unfold letOwnedTupleGo
  cases tg <;> first
    | exact wpAny_pure hQ
    | (cases u <;> first
        | exact wpAny_pure hQ
        | (refine wpAny_bind (wpAny_load ho ?_)
           rw [hc, hd]
           show wpAny M A (if (["enumerate", "zip", "dict_itemiterator", "dict_reverseitemiterator", "odict_iterator", "itertools.zip_longest", "itertools.pairwise"].contains n && vs[0]? == some (rawInt _)) = true then _ else _) Q E s
           rw [if_neg (by intro h; rw [hn, Bool.false_and] at h; cases h)]
           exact wpAny_pure hQ))


def Itl (K : PySem.W.Frag) (a : Addr) : It :=
  ⟨fun i H => ∃ xs x, SqL K H a xs ∧ xs[i]? = some x, fun i H x H' => H' = H ∧ ∀ xs, SqL K H a xs → xs[i]? = some x, fun i H => ∃ xs, SqL K H a xs ∧ xs.length ≤ i⟩
def Itt (K : PySem.W.Frag) (a : Addr) : It :=
  ⟨fun i H => ∃ xs x, SqT K H a xs ∧ xs[i]? = some x, fun i H x H' => H' = H ∧ ∀ xs, SqT K H a xs → xs[i]? = some x, fun i H => ∃ xs, SqT K H a xs ∧ xs.length ≤ i⟩

def Itr (lo : Int) (n : Nat) : It := ⟨fun i _ => i < n, fun i H x H' => H' = H ∧ x = .int (lo + i), fun i _ => n ≤ i⟩
theorem turn_list {P : Program} {w : World} {K : PySem.W.Frag} {tg : Expr} (a it : Addr) : Turn P w K tg (Itl K a) [it] it (fun i h => h.IsListIter it a i) where
  mem := by simp
  obj := fun i h st b hb => by
    have e : b = it := by simpa using hb
    subst e
    obtain ⟨o, e, c, d⟩ := st
    exact ⟨o, e, fun v z => by rw [d] at z; cases z⟩
  keep := fun i h h' st k => st.at fun o e => k it (by simp) o e
  item := by
    intro X hP hw hK hc i pins s σ H E I hf st hg
    subst hP hw hK
    obtain ⟨xs, x, hq, hx⟩ := hg
    obtain ⟨its, rv, p, hz⟩ := I.list hq
    obtain ⟨u, hu, ru⟩ := rv.get hx
    obtain ⟨f0, f1, f2, f3, f4, f5⟩ := hf it (by simp)
    refine wpAny_pyNext_list_item st p.isList (x := u) (by simpa using hu) fun h' st' sb => ?_
    have I1 : Inv X pins σ H { s with heap := h' } := I.turned (t' := s.toks) (fun b o hb e => (sb.2 b hb).trans e) f0 f1 f3 f4 f5
    obtain ⟨o, e, c, d⟩ := id st'
    exact ⟨u, rfl, go_of (s := { s with heap := h' }) e c d (by decide) ⟨x, H, I1, ru, ⟨rfl, fun ys hy => by rw [I.list_inj hy hq]; exact hx⟩, st', fun b hb => (hf b hb).1⟩⟩
  done := by
    intro X hP hw hK hc i pins s σ H E I hf st hg
    subst hP hw hK
    obtain ⟨xs, hq, hx⟩ := hg
    obtain ⟨its, rv, p, hz⟩ := I.list hq
    obtain ⟨f0, f1, f2, f3, f4, f5⟩ := hf it (by simp)
    have hl := rv.length
    exact wpAny_pyNext_list_end (I.ok.hd hc) st p.isList (by simp; omega) fun h' eb => ⟨rfl, I.turned (t' := s.toks) (fun b o hb e => eb b o hb e) f0 f1 f3 f4 f5⟩
  self := fun _ _ _ _ _ st h => wpAny_pyIter_listiter st h
theorem turn_tuple {P : Program} {w : World} {K : PySem.W.Frag} {tg : Expr} (a it : Addr) : Turn P w K tg (Itt K a) [it] it (fun i h => h.IsTupleIter it a i) where
  mem := by simp
  obj := fun i h st b hb => by
    have e : b = it := by simpa using hb
    subst e
    obtain ⟨o, e, c, d⟩ := st
    exact ⟨o, e, fun v z => by rw [d] at z; cases z⟩
  keep := fun i h h' st k => st.at fun o e => k it (by simp) o e
  item := by
    intro X hP hw hK hc i pins s σ H E I hf st hg
    subst hP hw hK
    obtain ⟨xs, x, hq, hx⟩ := hg
    obtain ⟨its, rv, p, hz⟩ := I.tuple hq
    obtain ⟨u, hu, ru⟩ := rv.get hx
    obtain ⟨f0, f1, f2, f3, f4, f5⟩ := hf it (by simp)
    refine wpAny_pyNext_tuple_item st (show s.heap.IsTuple a its.toArray from p) (x := u) (by simpa using hu) fun h' st' sb => ?_
    have I1 : Inv X pins σ H { s with heap := h' } := I.turned (t' := s.toks) (fun b o hb e => (sb.2 b hb).trans e) f0 f1 f3 f4 f5
    obtain ⟨o, e, c, d⟩ := id st'
    exact ⟨u, rfl, go_of (s := { s with heap := h' }) e c d (by decide) ⟨x, H, I1, ru, ⟨rfl, fun ys hy => by rw [I.tuple_inj hy hq]; exact hx⟩, st', fun b hb => (hf b hb).1⟩⟩
  done := by
    intro X hP hw hK hc i pins s σ H E I hf st hg
    subst hP hw hK
    obtain ⟨xs, hq, hx⟩ := hg
    obtain ⟨its, rv, p, hz⟩ := I.tuple hq
    obtain ⟨f0, f1, f2, f3, f4, f5⟩ := hf it (by simp)
    have hl := rv.length
    exact wpAny_pyNext_tuple_end (I.ok.hd hc) st (show s.heap.IsTuple a its.toArray from p) (by simp; omega) fun h' eb => ⟨rfl, I.turned (t' := s.toks) (fun b o hb e => eb b o hb e) f0 f1 f3 f4 f5⟩
  self := fun _ _ _ _ _ st h => wpAny_pyIter_tupleiter st h
theorem turn_range {P : Program} {w : World} {K : PySem.W.Frag} {tg : Expr} (it : Addr) (lo : Int) (n : Nat) : Turn P w K tg (Itr lo n) [it] it (fun i h => IsRangeIter h it (lo + (i : Nat) * 1) ((n : Int) - (i : Nat)) 1) where
  mem := by simp
  obj := fun i h st b hb => by
    have e : b = it := by simpa using hb
    subst e
    exact ⟨_, st, fun v z => by
      have z' : Data.fields _ = Data.cell v := z
      cases z'⟩
  keep := fun i h h' st k => k it (by simp) _ st
  item := by
    intro X hP hw hK hc i pins s σ H E I hf st hg
    subst hP hw hK
    obtain ⟨f0, f1, f2, f3, f4, f5⟩ := hf it (by simp)
    have W := Walks.range (prog := X.prog) (w := X.w) (I.ok.hd hc) it lo 1 n
    refine W.item i s _ _ hg st fun v h' tk hv st' kk => ?_
    obtain ⟨t, rfl⟩ := hv
    have I1 : Inv X pins σ H { s with heap := h', toks := tk } := I.turned (fun b o hb e => kk b o (by simpa using hb) e) f0 f1 f3 f4 f5
    refine ⟨_, rfl, go_of (s := { s with heap := h', toks := tk }) (n := "range_iterator") st' rfl rfl (by decide) ⟨.int (lo + i), H, I1, ⟨t, ?_⟩, ⟨rfl, rfl⟩, st', fun b hb => (hf b hb).1⟩⟩
    rw [Int.mul_one]
  done := by
    intro X hP hw hK hc i pins s σ H E I hf st hg
    subst hP hw hK
    obtain ⟨f0, f1, f2, f3, f4, f5⟩ := hf it (by simp)
    exact wpAny_pyNext_range_end (I.ok.hd hc) st (by have : n ≤ i := hg; omega) fun h' eb => ⟨rfl, I.turned (t' := s.toks) (fun b o hb e => eb b o hb e) f0 f1 f3 f4 f5⟩
  self := fun _ _ _ _ _ st h => wpAny_pyIter_rangeiter st h
end L2

namespace L2
open PySem PySem.Spec PyProof.Rows
section
variable {X : Cx} {tg : Expr}
def iList (K : PySem.W.Frag) (tl : TE) : TI := fun σ H R => tl σ H fun x H1 => ∃ a, x = .ref a ∧ (∃ xs, SqL K H1 a xs) ∧ R (Itl K a) H1
def iTup (K : PySem.W.Frag) (tl : TE) : TI := fun σ H R => tl σ H fun x H1 => ∃ a, x = .ref a ∧ (∃ xs, SqT K H1 a xs) ∧ R (Itt K a) H1
theorem pi_list {l : Expr} {tl : TE} (hl : PE X l tl) : PI X tg l (iList X.K tl) := by
  intro pins s σ H R I h
  refine thn (hl pins s σ H _ I h) fun v s1 ⟨x, H1, I1, r1, q1⟩ => ?_
  obtain ⟨a, e, ⟨xs, hq⟩, q⟩ := q1
  subst e
  cases r1
  obtain ⟨its, rv, p, hz⟩ := I1.list hq
  refine wpAny_pyIter_list p.isList ?_
  refine ⟨s1.heap.objs.size, [s1.heap.objs.size], _, _, H1, rfl, I1.kept (t' := s1.toks) fun b o e => Heap.get?_push_of_some _ e, turn_list a _, ⟨_, Heap.get?_push_size _ rfl, rfl, rfl⟩, fun b hb => ?_, q⟩
  have e : b = s1.heap.objs.size := by simpa using hb
  subst e
  exact I1.fpOk (Nat.le_refl _) (I1.hok.fresh (Nat.le_refl _))
theorem pi_tup {l : Expr} {tl : TE} (hl : PE X l tl) : PI X tg l (iTup X.K tl) := by
  intro pins s σ H R I h
  refine thn (hl pins s σ H _ I h) fun v s1 ⟨x, H1, I1, r1, q1⟩ => ?_
  obtain ⟨a, e, ⟨xs, hq⟩, q⟩ := q1
  subst e
  cases r1
  obtain ⟨its, rv, p, hz⟩ := I1.tuple hq
  refine wpAny_pyIter_tuple (show s1.heap.IsTuple a its.toArray from p) ?_
  refine ⟨s1.heap.objs.size, [s1.heap.objs.size], _, _, H1, rfl, I1.kept (t' := s1.toks) fun b o e => Heap.get?_push_of_some _ e, turn_tuple a _, ⟨_, Heap.get?_push_size _ rfl, rfl, rfl⟩, fun b hb => ?_, q⟩
  have e : b = s1.heap.objs.size := by simpa using hb
  subst e
  exact I1.fpOk (Nat.le_refl _) (I1.hok.fresh (Nat.le_refl _))

theorem range_it {pins : List (Addr × Obj)} {σ : St} {H : Hp} {s : Shared} {R : It → Hp → Prop} {E : Value → Shared → Prop} {lo hi : Int} {t u v : Tok} {tk : Nat} (I : Inv X pins σ H s) (h1 : -(2 ^ 62) ≤ lo) (h2 : lo < 2 ^ 62) (h3 : -(2 ^ 62) ≤ hi) (h4 : hi < 2 ^ 62)
    (q : R (Itr lo (hi - lo).toNat) H) : wpAny (model X.prog X.w) X.A (pyIter (.ref s.heap.objs.size)) (PIE X pins σ tg R) E { s with heap := s.heap.push { cls := .type "range", data := .fields #[.int lo t, .int hi u, .int 1 v] }, toks := tk } := by
  refine wpAny_pyIter_range (IsRange.new ..) (small_one h1 h2 h3 h4) ?_
  have I1 : Inv X pins σ H { s with heap := s.heap.push { cls := .type "range", data := .fields #[.int lo t, .int hi u, .int 1 v] }, toks := tk } := I.kept fun b o e => Heap.get?_push_of_some _ e
  refine ⟨(s.heap.push { cls := .type "range", data := .fields #[.int lo t, .int hi u, .int 1 v] }).objs.size, [(s.heap.push { cls := .type "range", data := .fields #[.int lo t, .int hi u, .int 1 v] }).objs.size], _, _, H, rfl,
    I1.kept (t' := tk) fun b o e => Heap.get?_push_of_some _ e, turn_range _ lo (hi - lo).toNat, ?_, fun b hb => ?_, q⟩
  · have e1 : lo + ((0 : Nat) : Int) * 1 = lo := by simp
    have e2 : (((hi - lo).toNat : Nat) : Int) - ((0 : Nat) : Int) = Builtin.Range.rangeSize lo hi 1 := by rw [rangeSize_one]; split <;> omega
    show IsRangeIter _ _ (lo + ((0 : Nat) : Int) * 1) ((((hi - lo).toNat : Nat) : Int) - ((0 : Nat) : Int)) 1
    rw [e1, e2]
    exact Heap.get?_push_size _ rfl
  · have e : b = (s.heap.push { cls := .type "range", data := .fields #[.int lo t, .int hi u, .int 1 v] }).objs.size := by simpa using hb
    subst e
    exact I1.fpOk (Nat.le_refl _) (I1.hok.fresh (Nat.le_refl _))
def iRng1 (ta : TA) : TI := fun σ H R => ta σ H fun vs H1 => ∃ j : Int, vs = [.int j] ∧ -(2 ^ 62) ≤ j ∧ j < 2 ^ 62 ∧ R (Itr 0 j.toNat) H1
def iRng2 (ta : TA) : TI := fun σ H R => ta σ H fun vs H1 => ∃ i j : Int, vs = [.int i, .int j] ∧ (-(2 ^ 62) ≤ i ∧ i < 2 ^ 62 ∧ -(2 ^ 62) ≤ j ∧ j < 2 ^ 62) ∧ R (Itr i (j - i).toNat) H1
theorem pi_range1 {a : Expr} {ta : TA} {p pos : Pos} (hg : Gl X "range") (hm : X.mg "range" = none) (ha : PA X [a] ta) (hs : starEach [a] X.env = [(false, eval a X.env)] := by rfl) : PI X tg (.Call (.Name "range" p) [a] [] pos) (iRng1 ta) := by
  intro pins s σ H R I h
  refine Call_ (ld_blt I hg hm boot_range (PyProof.Rows.callWith_type1 (thn (ha pos pins s σ H _ I h) fun us s1 ⟨vs, H1, I1, r1, q1⟩ => ?_) hs rfl))
  obtain ⟨j, e, q1, q2, q⟩ := q1
  subst e
  cases r1 with
  | cons r rr =>
    cases rr
    obtain ⟨t, rfl⟩ := r
    exact call_range_1 (range_it I1 (by omega) (by omega) q1 q2 (by simpa using q))
def tFor (wi : TI) (g : TG) (tb : TS) : TS := fun D σ H => wi σ H fun J H1 => ∃ W : Nat → Nat → St → Hp → Prop, (∃ m, W 0 m σ H1) ∧ ∀ i m σ H, W i m σ H →
  (J.stop i H ∧ D.nx σ H) ∨ (J.go i H ∧ ∃ N : St → Hp → Prop, (∀ σ' H', N σ' H' → ∃ m', m' < m ∧ W (i + 1) m' σ' H') ∧ ∀ x H', J.yld i H x H' → g x σ H' fun σ2 H2 => tb { D with nx := N, ct := N, bk := D.nx } σ2 H2)

def pinsAt (fp : List Addr) (h : Heap) : List (Addr × Obj) := fp.filterMap fun b => (h.get? b).map fun o => (b, o)
theorem mem_pinsAt {fp : List Addr} {h : Heap} {b : Addr} {o : Obj} (hb : b ∈ fp) (e : h.get? b = some o) : (b, o) ∈ pinsAt fp h := List.mem_filterMap.mpr ⟨b, hb, by rw [e]; rfl⟩
theorem of_pinsAt {fp : List Addr} {h : Heap} {p : Addr × Obj} (hp : p ∈ pinsAt fp h) : p.1 ∈ fp ∧ h.get? p.1 = some p.2 := by
  obtain ⟨b, hb, e⟩ := List.mem_filterMap.mp hp
  cases q : h.get? b with
  | none => rw [q] at e; cases e
  | some o =>
    rw [q] at e
    have e' : (b, o) = p := Option.some.inj e
    subst e'
    exact ⟨hb, q⟩
theorem Inv.pinned {pins : List (Addr × Obj)} {σ : St} {H : Hp} {s : Shared} {fp : List Addr} (I : Inv X pins σ H s) (hf : ∀ b ∈ fp, FpOk X pins H b) (ho : ∀ b ∈ fp, ∃ o, s.heap.get? b = some o ∧ ∀ v, o.data ≠ .cell v) : Inv X (pins ++ pinsAt fp s.heap) σ H s :=
  I.pins_of fun p hp => (List.mem_append.mp hp).elim (fun z => I.pin p (List.mem_append_right _ z)) fun z => by
    obtain ⟨hb, e⟩ := of_pinsAt z
    obtain ⟨f0, f1, f2, _⟩ := hf p.1 hb
    obtain ⟨o, e', d⟩ := ho p.1 hb
    rw [e] at e'; cases e'
    exact ⟨e, f0, f1, f2, d⟩
theorem Inv.unpinned {pins pl : List (Addr × Obj)} {σ : St} {H : Hp} {s : Shared} (I : Inv X (pins ++ pl) σ H s) : Inv X pins σ H s := I.pins_of fun p hp => I.pin p (List.mem_append_right _ (List.mem_append_left _ hp))
theorem ps_for {iter : Expr} {body : List Stmt} {wi : TI} {g : TG} {tb : TS} {pos : Pos} (hp : PassesOwn (model X.prog X.w) X.A X.env X.xe) (hc : X.calm = true) (hi : PI X tg iter wi) (hg : PG X tg g) (hb : PSs X body tb)
    (hs : ∀ x, foldedSetIterable iter X.env x = pure x := by intro _; rfl) : PS X (.For tg iter body [] pos) (tFor wi g tb) := by
  intro pins s σ H D I h
  refine wpAny_For (thn (hi pins s σ H _ I h) fun v s1 h1 => thn h1 fun itv s2 h2 => ?_) hs
  obtain ⟨it, fp, tn, J, H2, e, I2, T, st2, f2, W, ⟨m0, w0⟩, turn⟩ := h2
  subst e
  have stat : ∀ {H' : Hp}, (∀ b ∈ fp, H' b = none) → ∀ b ∈ fp, FpOk X pins H' b := fun hn b hb => ⟨hn b hb, (f2 b hb).2⟩
  refine codeAny_forLoop_any (fun n s' => ∃ i σ' H', Inv X pins σ' H' s' ∧ tn i s'.heap ∧ (∀ b ∈ fp, H' b = none) ∧ W i n σ' H') ?_ m0 ⟨0, σ, H2, I2, st2, fun b hb => (f2 b hb).1, w0⟩
  rintro n s3 ⟨i, σ3, H3, I3, st3, fr3, w3⟩
  rcases turn i n σ3 H3 w3 with ⟨stop, qn⟩ | ⟨go, N, hN, step⟩
  · refine wpAny_passesOwn hp (thn (T.done X rfl rfl rfl hc i pins s3 σ3 H3 X.xe I3 (stat fr3) st3 stop) fun r s4 ⟨hr, I4⟩ => ?_)
    subst hr
    exact wpAny_execs_nil ⟨σ3, H3, I4, qn⟩
  · refine wpAny_passesOwn hp (thn (T.item X rfl rfl rfl hc i pins s3 σ3 H3 X.xe I3 (stat fr3) st3 go) fun r s4 ⟨u, hr, h4⟩ => ?_)
    subst hr
    refine wpAny_passesOwn hp (thn h4 fun _ s5 ⟨x, H5, I5, r5, y5, st5, fr5⟩ => ?_)
    have I5' := I5.pinned (stat fr5) (T.obj _ _ st5)
    refine wpAny_passesOwn hp (thn (hg _ s5 σ3 H5 x u _ I5' r5 (step x H5 y5)) fun _ s6 ⟨σ6, H6, I6, q6⟩ => ?_)
    refine wpAny_passesOwn hp (thn (hb _ s6 σ6 H6 _ I6 q6) fun f s7 q7 => ?_)
    have again : ∀ {σ7 : St} {H7 : Hp}, Inv X (pins ++ pinsAt fp s5.heap) σ7 H7 s7 → N σ7 H7 → ∃ m, m < n ∧ ∃ i σ' H', Inv X pins σ' H' s7 ∧ tn i s7.heap ∧ (∀ b ∈ fp, H' b = none) ∧ W i m σ' H' := fun {σ7 H7} I7 n7 => by
      obtain ⟨m', hm, w7⟩ := hN σ7 H7 n7
      refine ⟨m', hm, i + 1, σ7, H7, I7.unpinned, T.keep _ _ _ st5 fun b hb o e => (I7.pin (b, o) (List.mem_append_right _ (List.mem_append_right _ (mem_pinsAt hb e)))).1, fun b hb => ?_, w7⟩
      obtain ⟨o, e, d⟩ := T.obj _ _ st5 b hb
      exact (I7.pin (b, o) (List.mem_append_right _ (List.mem_append_right _ (mem_pinsAt hb e)))).2.1
    cases f with
    | next => obtain ⟨σ7, H7, I7, n7⟩ := q7; exact again I7 n7
    | cont => obtain ⟨σ7, H7, I7, n7⟩ := q7; exact again I7 n7
    | brk => obtain ⟨σ7, H7, I7, q7⟩ := q7; exact ⟨σ7, H7, I7.unpinned, q7⟩
    | ret v => obtain ⟨x7, σ7, H7, I7, r7, q7⟩ := q7; exact ⟨x7, σ7, H7, I7.unpinned, r7, q7⟩
end



theorem for_list {K : PySem.W.Frag} {a : Addr} {xs : List V} {g : TG} {tb : TS} {D : Ends} {σ : St} {H : Hp} (Pv : Nat → St → Hp → Prop) (h0 : Pv 0 σ H) (hl : ∀ i σ H, i ≤ xs.length → Pv i σ H → SqL K H a xs)
    (hs : ∀ i x σ H, xs[i]? = some x → Pv i σ H → g x σ H fun σ2 H2 => tb { D with nx := Pv (i + 1), ct := Pv (i + 1), bk := D.nx } σ2 H2) (hd : ∀ σ H, Pv xs.length σ H → D.nx σ H) :
    ∃ W : Nat → Nat → St → Hp → Prop, (∃ m, W 0 m σ H) ∧ ∀ i m σ H, W i m σ H →
      ((Itl K a).stop i H ∧ D.nx σ H) ∨ ((Itl K a).go i H ∧ ∃ N : St → Hp → Prop, (∀ σ' H', N σ' H' → ∃ m', m' < m ∧ W (i + 1) m' σ' H') ∧ ∀ x H', (Itl K a).yld i H x H' → g x σ H' fun σ2 H2 => tb { D with nx := N, ct := N, bk := D.nx } σ2 H2) := by
  refine ⟨fun i m σ H => m = xs.length - i ∧ i ≤ xs.length ∧ Pv i σ H, ⟨xs.length, by simp, Nat.zero_le _, h0⟩, ?_⟩
  rintro i m σ H ⟨rfl, hi, p⟩
  have q := hl i σ H hi p
  by_cases hlt : i < xs.length
  · refine .inr ⟨⟨xs, xs[i], q, by simp [hlt]⟩, Pv (i + 1), fun σ' H' p' => ⟨xs.length - (i + 1), by omega, rfl, hlt, p'⟩, fun x H' y => ?_⟩
    obtain ⟨e, y⟩ := y
    subst e
    exact hs i x σ _ (y xs q) p
  · have e : i = xs.length := by omega
    subst e
    exact .inl ⟨⟨xs, q, Nat.le_refl _⟩, hd σ H p⟩
theorem for_tup {K : PySem.W.Frag} {a : Addr} {xs : List V} {g : TG} {tb : TS} {D : Ends} {σ : St} {H : Hp} (Pv : Nat → St → Hp → Prop) (h0 : Pv 0 σ H) (hl : ∀ i σ H, i ≤ xs.length → Pv i σ H → SqT K H a xs)
    (hs : ∀ i x σ H, xs[i]? = some x → Pv i σ H → g x σ H fun σ2 H2 => tb { D with nx := Pv (i + 1), ct := Pv (i + 1), bk := D.nx } σ2 H2) (hd : ∀ σ H, Pv xs.length σ H → D.nx σ H) :
    ∃ W : Nat → Nat → St → Hp → Prop, (∃ m, W 0 m σ H) ∧ ∀ i m σ H, W i m σ H →
      ((Itt K a).stop i H ∧ D.nx σ H) ∨ ((Itt K a).go i H ∧ ∃ N : St → Hp → Prop, (∀ σ' H', N σ' H' → ∃ m', m' < m ∧ W (i + 1) m' σ' H') ∧ ∀ x H', (Itt K a).yld i H x H' → g x σ H' fun σ2 H2 => tb { D with nx := N, ct := N, bk := D.nx } σ2 H2) := by
  refine ⟨fun i m σ H => m = xs.length - i ∧ i ≤ xs.length ∧ Pv i σ H, ⟨xs.length, by simp, Nat.zero_le _, h0⟩, ?_⟩
  rintro i m σ H ⟨rfl, hi, p⟩
  have q := hl i σ H hi p
  by_cases hlt : i < xs.length
  · refine .inr ⟨⟨xs, xs[i], q, by simp [hlt]⟩, Pv (i + 1), fun σ' H' p' => ⟨xs.length - (i + 1), by omega, rfl, hlt, p'⟩, fun x H' y => ?_⟩
    obtain ⟨e, y⟩ := y
    subst e
    exact hs i x σ _ (y xs q) p
  · have e : i = xs.length := by omega
    subst e
    exact .inl ⟨⟨xs, q, Nat.le_refl _⟩, hd σ H p⟩
theorem for_range {lo : Int} {n : Nat} {g : TG} {tb : TS} {D : Ends} {σ : St} {H : Hp} (Pv : Nat → St → Hp → Prop) (h0 : Pv 0 σ H)
    (hs : ∀ i σ H, i < n → Pv i σ H → g (.int (lo + i)) σ H fun σ2 H2 => tb { D with nx := Pv (i + 1), ct := Pv (i + 1), bk := D.nx } σ2 H2) (hd : ∀ σ H, Pv n σ H → D.nx σ H) :
    ∃ W : Nat → Nat → St → Hp → Prop, (∃ m, W 0 m σ H) ∧ ∀ i m σ H, W i m σ H →
      ((Itr lo n).stop i H ∧ D.nx σ H) ∨ ((Itr lo n).go i H ∧ ∃ N : St → Hp → Prop, (∀ σ' H', N σ' H' → ∃ m', m' < m ∧ W (i + 1) m' σ' H') ∧ ∀ x H', (Itr lo n).yld i H x H' → g x σ H' fun σ2 H2 => tb { D with nx := N, ct := N, bk := D.nx } σ2 H2) := by
  refine ⟨fun i m σ H => m = n - i ∧ i ≤ n ∧ Pv i σ H, ⟨n, by simp, Nat.zero_le _, h0⟩, ?_⟩
  rintro i m σ H ⟨rfl, hi, p⟩
  by_cases hlt : i < n
  · refine .inr ⟨hlt, Pv (i + 1), fun σ' H' p' => ⟨n - (i + 1), by omega, rfl, hlt, p'⟩, fun x H' y => ?_⟩
    obtain ⟨e, y⟩ := y
    subst e y
    exact hs i σ _ hlt p
  · have e : i = n := by omega
    subst e
    exact .inl ⟨Nat.le_refl _, hd σ H p⟩

end L2

namespace L2
open PySem PySem.Spec PyProof.Rows

abbrev R2 := V → V → Hp → VK → Prop

def OpR (X : Cx) (f : Value → Value → Sem Value) (r : R2) : Prop :=
  ∀ (pins : List (Addr × Obj)) (s : Shared) (σ : St) (H : Hp) (x y : V) (v u : Value) (Q : VK), Inv X pins σ H s → RelV x v → RelV y u → r x y H Q →
    wpAny (model X.prog X.w) X.A (f v u) (EP X pins σ Q) X.xe s

def UnR (X : Cx) (f : Value → Sem Value) (r : V → Hp → VK → Prop) : Prop :=
  ∀ (pins : List (Addr × Obj)) (s : Shared) (σ : St) (H : Hp) (x : V) (v : Value) (Q : VK), Inv X pins σ H s → RelV x v → r x H Q →
    wpAny (model X.prog X.w) X.A (f v) (EP X pins σ Q) X.xe s

def CallR (X : Cx) (f : Value) (r : List V → Hp → VK → Prop) : Prop :=
  ∀ (pins : List (Addr × Obj)) (s : Shared) (σ : St) (H : Hp) (xs : List V) (us : List Value) (Q : VK), Inv X pins σ H s → Vals xs us → r xs H Q →
    wpAny (model X.prog X.w) X.A (call f us) (EP X pins σ Q) X.xe s

def TruR (X : Cx) (r : V → Hp → (Bool → Hp → Prop) → Prop) : Prop :=
  ∀ (pins : List (Addr × Obj)) (s : Shared) (σ : St) (H : Hp) (x : V) (v : Value) (Q : Bool → Hp → Prop), Inv X pins σ H s → RelV x v → r x H Q →
    wpAny (model X.prog X.w) X.A (truthy v) (TP X pins σ Q) X.xe s

def tOp (r : R2) (ta tb : TE) : TE := fun σ H Q => ta σ H fun x H1 => tb σ H1 fun y H2 => r x y H2 Q
def tUn (r : V → Hp → VK → Prop) (ta : TE) : TE := fun σ H Q => ta σ H fun x H1 => r x H1 Q

def rI (C : Int → Int → Prop) (g : Int → Int → V) : R2 := fun x y H Q => ∃ i j, x = .int i ∧ y = .int j ∧ C i j ∧ Q (g i j) H
def rI0 (g : Int → Int → V) : R2 := fun x y H Q => ∃ i j, x = .int i ∧ y = .int j ∧ Q (g i j) H
def rU (g : Int → V) : V → Hp → VK → Prop := fun x H Q => ∃ i, x = .int i ∧ Q (g i) H

section
variable {X : Cx} {a b c : Expr} {ta tb tc : TE} {pos : Pos}

theorem binT (ha : PE X a ta) (hb : PE X b tb) {pins : List (Addr × Obj)} {s : Shared} {σ : St} {H : Hp} {R : V → V → Hp → Prop} (I : Inv X pins σ H s)
    (h : ta σ H fun x H1 => tb σ H1 fun y H2 => R x y H2) {Q : Value → Shared → Prop} {f : Value → Value → Sem Value}
    (hf : ∀ v u s2 x y H2, Inv X pins σ H2 s2 → RelV x v → RelV y u → R x y H2 → wpAny (model X.prog X.w) X.A (f v u) Q X.xe s2) :
    wpAny (model X.prog X.w) X.A (eval a X.env) (fun v s₁ => wpAny (model X.prog X.w) X.A (eval b X.env) (fun u s₂ => wpAny (model X.prog X.w) X.A (f v u) Q X.xe s₂) X.xe s₁) X.xe s := by
  refine thn (ha pins s σ H _ I h) fun v s1 ⟨x, H1, I1, r1, q1⟩ => ?_
  refine thn (hb pins s1 σ H1 _ I1 q1) fun u s2 ⟨y, H2, I2, r2, q2⟩ => ?_
  exact hf v u s2 x y H2 I2 r1 r2 q2

theorem pe_op {op : Operator} {r : R2} (ho : OpR X (binaryOp op) r) (ha : PE X a ta) (hb : PE X b tb) : PE X (.BinOp a op b pos) (tOp r ta tb) := by
  intro pins s σ H Q I h
  exact wpAny_BinOp (binT ha hb I h fun v u s2 x y H2 I2 rx ry q => ho pins s2 σ H2 x y v u Q I2 rx ry q)
theorem pe_un {op : UnaryOp} {r : V → Hp → VK → Prop} (ho : UnR X (unaryOp op) r) (ha : PE X a ta) : PE X (.UnaryOp op a pos) (tUn r ta) := by
  intro pins s σ H Q I h
  exact UnaryOp_ (thn (ha pins s σ H _ I h) fun v s1 ⟨x, H1, I1, r1, q1⟩ => ho pins s1 σ H1 x v Q I1 r1 q1)

theorem opI {f : Value → Value → Sem Value} {C : Int → Int → Prop} {g : Int → Int → Int}
    (rule : ∀ (i j : Int) (t u : Tok) (s : Shared) (Q : Value → Shared → Prop) (E : Value → Shared → Prop), C i j → Q (.int (g i j) s.toks) { s with toks := s.toks + 1 } → wpAny (model X.prog X.w) X.A (f (.int i t) (.int j u)) Q E s) :
    OpR X f (rI C fun i j => .int (g i j)) := by
  intro pins s σ H x y v u Q I rx ry h
  obtain ⟨i, j, rfl, rfl, hc, q⟩ := h
  obtain ⟨t, rfl⟩ := rx
  obtain ⟨t', rfl⟩ := ry
  exact rule i j t t' s _ _ hc ⟨.int (g i j), H, I.tok _, ⟨_, rfl⟩, q⟩
theorem opI0 {f : Value → Value → Sem Value} {g : Int → Int → Int}
    (rule : ∀ (i j : Int) (t u : Tok) (s : Shared) (Q : Value → Shared → Prop) (E : Value → Shared → Prop), Q (.int (g i j) s.toks) { s with toks := s.toks + 1 } → wpAny (model X.prog X.w) X.A (f (.int i t) (.int j u)) Q E s) :
    OpR X f (rI0 fun i j => .int (g i j)) := by
  intro pins s σ H x y v u Q I rx ry h
  obtain ⟨i, j, rfl, rfl, q⟩ := h
  obtain ⟨t, rfl⟩ := rx
  obtain ⟨t', rfl⟩ := ry
  exact rule i j t t' s _ _ ⟨.int (g i j), H, I.tok _, ⟨_, rfl⟩, q⟩
theorem opB0 {f : Value → Value → Sem Value} {g : Int → Int → Bool}
    (rule : ∀ (i j : Int) (t u : Tok) (s : Shared) (Q : Value → Shared → Prop) (E : Value → Shared → Prop), Q (.bool (g i j)) s → wpAny (model X.prog X.w) X.A (f (.int i t) (.int j u)) Q E s) :
    OpR X f (rI0 fun i j => .bl (g i j)) := by
  intro pins s σ H x y v u Q I rx ry h
  obtain ⟨i, j, rfl, rfl, q⟩ := h
  obtain ⟨t, rfl⟩ := rx
  obtain ⟨t', rfl⟩ := ry
  exact rule i j t t' s _ _ ⟨.bl (g i j), H, I, rfl, q⟩

def CDiv (i j : Int) : Prop := 0 < j ∧ j < 1073741824
def CDivN (i j : Int) : Prop := j ≠ 0 ∧ j.natAbs < 1073741824
def CPow (i j : Int) : Prop := 0 ≤ j ∧ j ≤ 1000000 ∧ i.natAbs < 2 ^ 64
def CMul (i j : Int) : Prop := (-(2 ^ 64) < i ∧ i < 2 ^ 64) ∨ (-(2 ^ 64) < j ∧ j < 2 ^ 64)
theorem CMul.ok {i j : Int} (h : CMul i j) : IntMulOk i j := by
  rcases h with ⟨h1, h2⟩ | ⟨h1, h2⟩
  · exact .of_left (intBits_le_64 h1 h2)
  · exact .of_right (intBits_le_64 h1 h2)
theorem op_add : OpR X (binaryOp .Add) (rI0 fun i j => .int (i + j)) := opI0 fun _ _ _ _ _ _ _ q => add_int q
theorem op_sub : OpR X (binaryOp .Sub) (rI0 fun i j => .int (i - j)) := opI0 fun _ _ _ _ _ _ _ q => sub_int q
theorem op_fdiv : OpR X (binaryOp .FloorDiv) (rI CDiv fun i j => .int (i / j)) := opI fun i j _ _ _ _ _ hc q => by
  have h1 : (0 : Int) < j := hc.1
  have h2 : j < 1073741824 := hc.2
  exact floordiv_int (by omega) (by rw [Int.fdiv_eq_ediv_of_nonneg i (by omega)]; exact q) (.inl (PyProof.noPylong_small (by omega)))
theorem op_mod : OpR X (binaryOp .Mod) (rI (fun _ j => 0 < j) fun i j => .int (i % j)) := opI fun i j _ _ _ _ _ hc q => by
  have h1 : (0 : Int) < j := hc
  exact mod_int' (by omega) (by rw [Int.fmod_eq_emod_of_nonneg i (by omega)]; exact q)
theorem op_pow : OpR X (binaryOp .Pow) (rI CPow fun i j => .int (i ^ j.toNat)) := opI fun _ _ _ _ _ _ _ hc q => pow_int_small hc.1 hc.2.1 hc.2.2 q
theorem unI {f : Value → Sem Value} {g : Int → Int}
    (rule : ∀ (i : Int) (t : Tok) (s : Shared) (Q : Value → Shared → Prop) (E : Value → Shared → Prop), Q (.int (g i) s.toks) { s with toks := s.toks + 1 } → wpAny (model X.prog X.w) X.A (f (.int i t)) Q E s) :
    UnR X f (rU fun i => .int (g i)) := by
  intro pins s σ H x v Q I rx h
  obtain ⟨i, rfl, q⟩ := h
  obtain ⟨t, rfl⟩ := rx
  exact rule i t s _ _ ⟨.int (g i), H, I.tok _, ⟨_, rfl⟩, q⟩
theorem un_neg : UnR X (unaryOp .USub) (rU fun i => .int (-i)) := unI fun _ _ _ _ _ q => neg_int q
end



def scal : V → V → Bool
  | .non, .non => true | .non, .int _ => true | .int _, .non => true | .non, .bl _ => true | .bl _, .non => true | .non, .str _ => true | .str _, .non => true
  | .int _, .int _ => true | .bl _, .bl _ => true | .str _, .str _ => true | .byt _, .byt _ => true
  | .int _, .str _ => true | .str _, .int _ => true | .bl _, .str _ => true | .str _, .bl _ => true
  | _, _ => false
def rEq : R2 := fun x y H Q => scal x y = true ∧ Q (.bl (decide (x = y))) H
def rNe : R2 := fun x y H Q => scal x y = true ∧ Q (.bl (!decide (x = y))) H

theorem dec_int {i j : Int} : decide (V.int i = V.int j) = (i == j) := by
  rw [Bool.eq_iff_iff]
  simp
theorem dec_bl {i j : Bool} : decide (V.bl i = V.bl j) = (i == j) := by
  rw [Bool.eq_iff_iff]
  simp
theorem dec_str {i j : Str} : decide (V.str i = V.str j) = (i == j) := by
  rw [Bool.eq_iff_iff]
  simp
theorem dec_byt {i j : Array UInt8} : decide (V.byt i = V.byt j) = (i.toList == j.toList) := by
  rw [Bool.eq_iff_iff]
  cases i
  cases j
  simp

section
variable {X : Cx} {a b c : Expr} {ta tb tc : TE} {pos : Pos}
theorem fin_bl {pins : List (Addr × Obj)} {σ : St} {H : Hp} {s : Shared} {Q : VK} {k k' : Bool} (I : Inv X pins σ H s) (q : Q (.bl k) H) (e : k = k') : EP X pins σ Q (.bool k') s := by
  subst e
  exact ⟨.bl k, H, I, rfl, q⟩
theorem op_eq : OpR X (compareOp .Eq) rEq := by
  intro pins s σ H x y v u Q I rx ry h
  obtain ⟨hs, q⟩ := h
  cases x with
  | non =>
    cases rx
    cases y with
    | non => cases ry; exact PySem.EqNone.eq_none_none (fin_bl I q (by simp))
    | bl j => cases ry; exact PySem.EqNone.eq_none_bool (fin_bl I q (by simp))
    | int j => obtain ⟨t', rfl⟩ := ry; exact PySem.EqNone.eq_none_int (fin_bl I q (by simp))
    | str j => obtain ⟨t', rfl⟩ := ry; exact PySem.EqNone.eq_none_str (fin_bl I q (by simp))
    | _ => exact absurd (show false = true from hs) Bool.false_ne_true
  | bl i =>
    cases rx
    cases y with
    | non => cases ry; exact PySem.EqNone.eq_bool_none (fin_bl I q (by simp))
    | bl j => cases ry; exact eq_bool (fin_bl I q dec_bl)
    | str j => obtain ⟨t', rfl⟩ := ry; exact PySem.EqMixed.eq_bool_str (fin_bl I q (by simp))
    | _ => exact absurd (show false = true from hs) Bool.false_ne_true
  | int i =>
    obtain ⟨t, rfl⟩ := rx
    cases y with
    | non => cases ry; exact PySem.EqNone.eq_int_none (fin_bl I q (by simp))
    | int j => obtain ⟨t', rfl⟩ := ry; exact eq_int (fin_bl I q dec_int)
    | str j => obtain ⟨t', rfl⟩ := ry; exact PySem.EqMixed.eq_int_str (fin_bl I q (by simp))
    | _ => exact absurd (show false = true from hs) Bool.false_ne_true
  | str i =>
    obtain ⟨t, rfl⟩ := rx
    cases y with
    | non => cases ry; exact PySem.EqNone.eq_str_none (fin_bl I q (by simp))
    | bl j => cases ry; exact PySem.EqMixed.eq_str_bool (fin_bl I q (by simp))
    | int j => obtain ⟨t', rfl⟩ := ry; exact PySem.EqMixed.eq_str_int (fin_bl I q (by simp))
    | str j => obtain ⟨t', rfl⟩ := ry; exact eq_str (fin_bl I q dec_str)
    | _ => exact absurd (show false = true from hs) Bool.false_ne_true
  | byt i =>
    obtain ⟨t, rfl⟩ := rx
    cases y with
    | byt j => obtain ⟨t', rfl⟩ := ry; exact PySem.W.eq_bytes (fin_bl I q dec_byt)
    | _ => exact absurd (show false = true from hs) Bool.false_ne_true
  | _ => cases y <;> exact absurd (show false = true from hs) Bool.false_ne_true
theorem op_ne : OpR X (compareOp .NotEq) rNe := by
  intro pins s σ H x y v u Q I rx ry h
  obtain ⟨hs, q⟩ := h
  cases x with
  | non =>
    cases rx
    cases y with
    | non => cases ry; exact PySem.EqNone.ne_none_none (fin_bl I q (by simp))
    | bl j => cases ry; exact PySem.EqNone.ne_none_bool (fin_bl I q (by simp))
    | int j => obtain ⟨t', rfl⟩ := ry; exact PySem.EqNone.ne_none_int (fin_bl I q (by simp))
    | str j => obtain ⟨t', rfl⟩ := ry; exact PySem.EqNone.ne_none_str (fin_bl I q (by simp))
    | _ => exact absurd (show false = true from hs) Bool.false_ne_true
  | bl i =>
    cases rx
    cases y with
    | non => cases ry; exact PySem.EqNone.ne_bool_none (fin_bl I q (by simp))
    | bl j => cases ry; exact ne_bool (fin_bl I q (congrArg not dec_bl))
    | str j => obtain ⟨t', rfl⟩ := ry; exact PySem.EqMixed.ne_bool_str (fin_bl I q (by simp))
    | _ => exact absurd (show false = true from hs) Bool.false_ne_true
  | int i =>
    obtain ⟨t, rfl⟩ := rx
    cases y with
    | non => cases ry; exact PySem.EqNone.ne_int_none (fin_bl I q (by simp))
    | int j => obtain ⟨t', rfl⟩ := ry; exact ne_int (fin_bl I q (congrArg not dec_int))
    | str j => obtain ⟨t', rfl⟩ := ry; exact PySem.EqMixed.ne_int_str (fin_bl I q (by simp))
    | _ => exact absurd (show false = true from hs) Bool.false_ne_true
  | str i =>
    obtain ⟨t, rfl⟩ := rx
    cases y with
    | non => cases ry; exact PySem.EqNone.ne_str_none (fin_bl I q (by simp))
    | bl j => cases ry; exact PySem.EqMixed.ne_str_bool (fin_bl I q (by simp))
    | int j => obtain ⟨t', rfl⟩ := ry; exact PySem.EqMixed.ne_str_int (fin_bl I q (by simp))
    | str j => obtain ⟨t', rfl⟩ := ry; exact ne_str (fin_bl I q (congrArg not dec_str))
    | _ => exact absurd (show false = true from hs) Bool.false_ne_true
  | byt i =>
    obtain ⟨t, rfl⟩ := rx
    cases y with
    | byt j => obtain ⟨t', rfl⟩ := ry; exact PySem.W.ne_bytes (fin_bl I q (congrArg not dec_byt))
    | _ => exact absurd (show false = true from hs) Bool.false_ne_true
  | _ => cases y <;> exact absurd (show false = true from hs) Bool.false_ne_true

theorem op_lt : OpR X (compareOp .Lt) (rI0 fun i j => .bl (decide (i < j))) := opB0 fun _ _ _ _ _ _ _ q => lt_int q
theorem op_le : OpR X (compareOp .LtE) (rI0 fun i j => .bl (decide (i ≤ j))) := opB0 fun _ _ _ _ _ _ _ q => le_int q
theorem op_gt : OpR X (compareOp .Gt) (rI0 fun i j => .bl (decide (j < i))) := opB0 fun _ _ _ _ _ _ _ q => gt_int q
theorem op_notN : OpR X (compareOp .IsNot) (fun x y H Q => y = .non ∧ Q (.bl (!decide (x = .non))) H) := by
  intro pins s σ H x y v u Q I rx ry h
  obtain ⟨rfl, q⟩ := h
  cases ry
  refine isnot_none_gen (fin_bl I q ?_)
  cases x <;> first
    | (cases rx; rfl)
    | (obtain ⟨t, rfl⟩ := rx; rfl)

def isObj : HO → Bool
  | .lst _ => true
  | .ins _ _ _ => true
  | _ => false
theorem nomark (b : Expr) {op : CmpOp} (h : op ≠ .In := by decide) (h2 : op ≠ .NotIn := by decide) : behindInMarks op b = false := by
  have e1 : (op == CmpOp.In) = false := by cases op <;> first | rfl | exact absurd rfl h
  have e2 : (op == CmpOp.NotIn) = false := by cases op <;> first | rfl | exact absurd rfl h2
  cases b <;> simp [behindInMarks, e1, e2]

theorem pe_cmpR {op : CmpOp} {r : R2} (ho : OpR X (compareOp op) r) (ha : PE X a ta) (hb : PE X b tb) (hm : behindInMarks op b = false) : PE X (.Compare a [op] [b] pos) (tOp r ta tb) := by
  intro pins s σ H Q I h
  exact wpAny_Compare1 (binT ha hb I h fun v u s2 x y H2 I2 rx ry q => ho pins s2 σ H2 x y v u Q I2 rx ry q) hm

def tTest (t : TE) : TT := fun σ H Q => t σ H fun x H' => ∃ k, x = .bl k ∧ Q k H'
theorem pt_cmpR {op : CmpOp} {r : R2} (ho : OpR X (compareOp op) r) (ha : PE X a ta) (hb : PE X b tb) (hm : behindInMarks op b = false) : PT X (.Compare a [op] [b] pos) (tTest (tOp r ta tb)) := by
  intro pins s σ H Q I h
  refine wpAny_isTrue_Compare1 (thn (ha pins s σ H _ I h) fun v s1 ⟨x, H1, I1, r1, q1⟩ => thn (hb pins s1 σ H1 _ I1 q1) fun u s2 ⟨y, H2, I2, r2, q2⟩ =>
    thn (ho pins s2 σ H2 x y v u _ I2 r1 r2 q2) fun c s3 ⟨z, H3, I3, r3, k, e, q3⟩ => ?_) hm
  subst e
  cases r3
  exact wpAny_truthy_bool ⟨H3, I3, q3⟩

def tChain (r r' : R2) (ta tb tc : TE) : TE := fun σ H Q => ta σ H fun x H1 => tb σ H1 fun y H2 => r x y H2 fun z H3 => ∃ k, z = .bl k ∧
  (if k = true then tc σ H3 fun w' H4 => r' y w' H4 Q else Q (.bl false) H3)
theorem pe_chain {op op' : CmpOp} {r r' : R2} (ho : OpR X (compareOp op) r) (ho' : OpR X (compareOp op') r') (ha : PE X a ta) (hb : PE X b tb) (hc : PE X c tc)
    (hm : lastMarks [op, op'] [b, c] = false := by with_unfolding_all rfl) : PE X (.Compare a [op, op'] [b, c] pos) (tChain r r' ta tb tc) := by
  intro pins s σ H Q I h
  refine Compare_chain (thn (ha pins s σ H _ I h) fun v s1 ⟨x, H1, I1, r1, q1⟩ => chain_link (thn (hb pins s1 σ H1 _ I1 q1) fun u s2 ⟨y, H2, I2, r2, q2⟩ =>
    thn (ho pins s2 σ H2 x y v u _ I2 r1 r2 q2) fun d s3 ⟨z, H3, I3, r3, k, e, q3⟩ => ?_)) hm
  subst e
  cases r3
  refine wpAny_truthy_bool ?_
  cases k with
  | false => exact ite_ff ⟨.bl false, H3, I3, rfl, q3⟩
  | true => exact ite_tt (chain_last (thn (hc pins s3 σ H3 _ I3 q3) fun w' s4 ⟨z', H4, I4, r4, q4⟩ => ho' pins s4 σ H4 y z' u w' Q I4 r2 r4 q4))
def TruV (K : PySem.W.Frag) (x : V) (H : Hp) (k : Bool) : Prop :=
  match x with
  | .non => k = false
  | .bl b => k = b
  | .int i => k = (i != 0)
  | .str y => y.length ≤ sizeLine ∧ k = ((y.length : Int) != 0)
  | .byt y => y.size ≤ sizeLine ∧ k = ((y.size : Int) != 0)
  | .ref p => (∃ xs, SqL K H p xs ∧ k = !xs.isEmpty) ∨ (∃ xs, SqT K H p xs ∧ k = !xs.isEmpty) ∨ ∃ kvs, H p = some (.dK kvs) ∧ k = !kvs.isEmpty
  | _ => False
theorem line63 : (sizeLine : Nat) < 2 ^ 63 := by rw [sizeLine_eq]; decide
def PlainIxT (b : Expr) : Prop := ∀ o i, subscripted b false o i = operate [o, i] (getItem o i)

theorem vals1 {x : V} {us : List Value} (r : Vals [x] us) : ∃ u, us = [u] ∧ RelV x u := by
  cases r with
  | cons r1 r2 => cases r2; exact ⟨_, rfl, r1⟩
theorem vals2 {x y : V} {us : List Value} (r : Vals [x, y] us) : ∃ u w', us = [u, w'] ∧ RelV x u ∧ RelV y w' := by
  cases r with
  | cons r1 r2 =>
    cases r2 with
    | cons r3 r4 => cases r4; exact ⟨_, _, rfl, r1, r3⟩
theorem call_max2 (hc : X.calm = true) : CallR X (.builtin "max") (fun xs H Q => ∃ i j, xs = [.int i, .int j] ∧ Q (.int (if j > i then j else i)) H) := by
  intro pins s σ H xs us Q I r h
  obtain ⟨i, j, rfl, q⟩ := h
  obtain ⟨u, w', rfl, ⟨t, rfl⟩, ⟨t', rfl⟩⟩ := vals2 r
  refine max_two_ints (I.ok.hd hc) fun h' tk k => ⟨_, H, I.kept k, ?_, q⟩
  by_cases hj : j > i
  · rw [if_pos hj, if_pos hj]; exact ⟨_, rfl⟩
  · rw [if_neg hj, if_neg hj]; exact ⟨_, rfl⟩
theorem call_int1 : CallR X (.type "int") (fun xs H Q => (∃ i, xs = [.int i] ∧ Q (.int i) H) ∨ ∃ k, xs = [.bl k] ∧ Q (.int (if k then 1 else 0)) H) := by
  intro pins s σ H xs us Q I r h
  rcases h with ⟨i, rfl, q⟩ | ⟨k, rfl, q⟩
  · obtain ⟨u, rfl, t, rfl⟩ := vals1 r
    exact call_int_int ⟨.int i, H, I, ⟨_, rfl⟩, q⟩
  · obtain ⟨u, rfl, r1⟩ := vals1 r
    cases r1
    exact call_int_bool ⟨.int (if k then 1 else 0), H, I.tok _, ⟨_, rfl⟩, q⟩
def LenV (K : PySem.W.Frag) (x : V) (H : Hp) (n : Nat) : Prop :=
  match x with
  | .str y => y.length ≤ sizeLine ∧ n = y.length
  | .byt y => y.size ≤ sizeLine ∧ n = y.size
  | .ref p => (∃ xs, SqL K H p xs ∧ n = xs.length) ∨ ∃ xs, SqT K H p xs ∧ n = xs.length
  | _ => False
end
end L2

namespace L2
open PySem PySem.Spec PyProof.Rows


structure ObjM (h : Heap) (x dx C : Addr) (mA : Str → Option Value) : Prop where
  obj : h.get? x = some (PySem.W.instObj C dx)
  ns : h.Ns1 dx mA
  ne : dx ≠ x

theorem lookIn_ns {h : Heap} {dx : Addr} {mA : Str → Option Value} (n : h.Ns1 dx mA) : ∃ od, h.get? dx = some od ∧ ∀ name, PySem.W.lookIn name od = some (mA name) := by
  obtain ⟨o, es, ep, ho, hd, hk, _, hm⟩ := n
  refine ⟨o, ho, fun name => ?_⟩
  have e := hm name
  unfold nsFind findBy at e
  rw [← Array.find?_toList] at e
  unfold PySem.W.lookIn
  rw [hd]
  dsimp only
  split
  · rename_i y q
    rw [q] at e
    exact congrArg some e
  · rename_i q
    rw [q] at e
    have a : es.toList.any (·.refKey) = false := by
      rw [List.any_eq_false]
      intro y hy
      obtain ⟨z, t, hkey⟩ := hk y (Array.mem_toList_iff.mp hy)
      simp [DictEntry.refKey, hkey]
    have a' : ¬ es.toList.any (·.refKey) = true := by rw [a]; exact Bool.false_ne_true
    rw [if_neg a']
    exact congrArg some e

theorem ObjM.look {h : Heap} {x dx C : Addr} {mA : Str → Option Value} (I : ObjM h x dx C mA) : ∃ od, PySem.W.InstAt h x (PySem.W.instObj C dx) C (some od) ∧ ∀ name, PySem.W.lookIn name od = some (mA name) :=
  let ⟨od, ho, hl⟩ := lookIn_ns I.ns
  ⟨od, ⟨I.obj, rfl, rfl, ho⟩, hl⟩

section
variable {prog : Program} {w : World} {A : Around} {E : Value → Shared → Prop} {s : Shared} {K : PySem.W.Frag} {x dx C f : Addr} {mA : Str → Option Value} {name : Str} {v : Value}

theorem get_map {expr : Bool} {Q : Value → Shared → Prop} (X : K.In s.heap) (I : ObjM s.heap x dx C mA) (hg : PySem.W.plainGet K C name = true) (hh : PySem.W.hasDictIn K C = true)
    (ha : PySem.W.findIn K (.ref C) name = some none) (hv : mA name = some v) (hv' : PySem.W.handedIn v = true) (h : Q v { s with toks := s.toks + 1 }) :
    wpAny (model prog w) A (getAttr (.ref x) name expr) Q E s := by
  obtain ⟨od, J, hl⟩ := I.look
  exact PySem.W.get_value X J (PySem.W.plainGet_of hg).1 (PySem.W.findObj_own hh ha rfl (by rw [hl, hv])) hv' h

theorem get_meth {pl : Sem Bool} {Q : Value × List Value → Shared → Prop} (X : K.In s.heap) (I : ObjM s.heap x dx C mA) (hg : PySem.W.plainGet K C name = true)
    (hf : PySem.W.findIn K (.ref C) name = some (some (.ref f))) (ht : PySem.W.isFn K (.ref f) = true) (hv : mA name = none) (h : Q (.ref f, [.ref x]) s) :
    wpAny (model prog w) A (getMethod (.ref x) name pl) Q E s := by
  obtain ⟨od, J, hl⟩ := I.look
  exact PySem.W.method_fn X J (PySem.W.plainGet_of hg).1 (PySem.W.plainGet_of hg).2 hf (beq_iff_eq.mp ht) (by show (PySem.W.lookIn name od).map (·.isSome) = some false; rw [hl, hv]; rfl) h

theorem set_map {ns : List Str} {Q : Unit → Shared → Prop} (X : K.In s.heap) (I : ObjM s.heap x dx C mA)
    (hs : PySem.W.findIn K (.ref C) "__setattr__" = some (some (.builtin "object.__setattr__"))) (hp : PySem.W.plainOver K C = true) (ht : PySem.W.takerIn K C name = some none) (hh : PySem.W.hasDictIn K C = true)
    (hw : PySem.Within mA ns) (hsz : ns.length ≤ sizeLine)
    (h : ∀ h', ObjM h' x dx C (fun y => if y = name then some v else mA y) → Heap.SameBut dx s.heap h' → Q () { s with heap := h', toks := s.toks + 2 }) :
    wpAny (model prog w) A (setAttr (.ref x) name v) Q E s := by
  obtain ⟨od, J, hl⟩ := I.look
  refine PySem.W.set_plain X J hs (PySem.W.osa_open (s := { s with toks := s.toks + 1 }) (r := none) X J hp ht fun b => ?_)
  obtain ⟨cd, hc, hd'⟩ := PySem.W.any_some hh
  have hx : s.heap.get? x = some ⟨.ref C, some dx, .plain, #[]⟩ := I.obj
  refine wpAny_bind (wpAny_pure (wpAny_bind (wpAny_bind (wpAny_loadPart hx (wpAny_bind (PySem.W.Looks.here (s := { s with toks := s.toks + 1 }) (PySem.W.looks_clsIn X hc) ?_))))))
  rw [hd']
  refine wpAny_pure (a := some dx) (wpAny_bind (wpAny_pure (wpAny_bind ?_)))
  refine wpAny_nsSet1 (s := { s with toks := s.toks + 1 }) I.ns fun h' hn2 hs2 => ?_
  obtain ⟨oD, esD, epD, hoD, hdD, hcD⟩ := hn2.count (PySem.Within.cons name v hw)
  refine wpAny_bind (wpAny_lookBehind hoD (by rw [hdD]; exact pastItsLine_dict (Nat.le_trans hcD (by rw [List.length_cons]; omega))) ?_)
  exact wpAny_pure (h _ ⟨(hs2.2 _ (Ne.symm I.ne)).trans I.obj, hn2, I.ne⟩ hs2)


theorem make_map {R : Result → Shared → Prop} {vs : List Value} {kw : List (Str × Value)} (X : K.In s.heap) (hm : PySem.W.makesIn K C = true)
    (hi : PySem.W.findIn K (.ref C) "__init__" = some (some (.ref f))) (hf : PySem.W.typeIn K (.ref f) = some (.type "function"))
    (h : codeAny (model prog w) (A.under (.builtin "type.__call__" ⟨.ref C :: vs, kw⟩)) (.call (.ref f) ⟨.ref (s.heap.objs.size + 1) :: vs, kw⟩) (PySem.W.InitBack (s.heap.objs.size + 1) R)
      { s with heap := (s.heap.push PySem.W.emptyDict).push (PySem.W.instObj C s.heap.objs.size) }) :
    codeAny (model prog w) A (.call (.ref C) ⟨vs, kw⟩) R s := by
  obtain ⟨hh, g, d, t, os⟩ := s
  exact PySem.W.make_core (PySem.W.makes_of X hm) (PySem.W.looks_findIn X hi) (fun self => PySem.W.bind_fn X self hf) (.inl rfl) h

end


def putF (f : Str) (v : V) : List (Str × V) → List (Str × V)
  | [] => [(f, v)]
  | (g, x) :: r => if g = f then (g, v) :: r else (g, x) :: putF f v r
theorem lookup_putF (f g : Str) (v : V) : ∀ fs : List (Str × V), (putF f v fs).lookup g = if g = f then some v else fs.lookup g
  | [] => by
    show List.lookup g [(f, v)] = _
    by_cases h : g = f
    · have hb : (g == f) = true := beq_iff_eq.mpr h
      simp only [List.lookup, hb, if_pos h]
    · have hb : (g == f) = false := beq_eq_false_iff_ne.mpr h
      simp only [List.lookup, hb, if_neg h]
  | (k, x) :: r => by
    have ih := lookup_putF f g v r
    rw [show putF f v ((k, x) :: r) = (if k = f then (k, v) :: r else (k, x) :: putF f v r) from rfl]
    by_cases hk : k = f
    · rw [if_pos hk]
      by_cases h : g = k
      · have hb : (g == k) = true := beq_iff_eq.mpr h
        simp only [List.lookup, hb, if_pos (h.trans hk)]
      · have hb : (g == k) = false := beq_eq_false_iff_ne.mpr h
        simp only [List.lookup, hb, if_neg (fun e : g = f => h (e.trans hk.symm))]
    · rw [if_neg hk]
      by_cases h : g = k
      · have hb : (g == k) = true := beq_iff_eq.mpr h
        simp only [List.lookup, hb, if_neg (fun e : g = f => hk (h.symm.trans e))]
      · have hb : (g == k) = false := beq_eq_false_iff_ne.mpr h
        simp only [List.lookup, hb]
        exact ih
theorem keys_putF (f : Str) (v : V) : ∀ fs : List (Str × V), f ∈ (putF f v fs).map (·.1) ∧ ∀ g, g ∈ fs.map (·.1) → g ∈ (putF f v fs).map (·.1)
  | [] => ⟨by simp [putF], fun g h => by simp at h⟩
  | (k, x) :: r => by
    obtain ⟨i1, i2⟩ := keys_putF f v r
    rw [show putF f v ((k, x) :: r) = (if k = f then (k, v) :: r else (k, x) :: putF f v r) from rfl]
    by_cases hk : k = f
    · rw [if_pos hk]
      subst hk
      exact ⟨by simp, fun g h => by simpa using h⟩
    · rw [if_neg hk]
      refine ⟨?_, fun g h => ?_⟩
      · rw [List.map_cons]
        exact List.mem_cons_of_mem _ i1
      · rw [List.map_cons] at h ⊢
        rcases List.mem_cons.mp h with e | e
        · exact List.mem_cons.mpr (.inl e)
        · exact List.mem_cons_of_mem _ (i2 g e)
theorem length_putF (f : Str) (v : V) : ∀ fs : List (Str × V), (putF f v fs).length ≤ fs.length + 1
  | [] => by simp [putF]
  | (k, x) :: r => by
    have ih := length_putF f v r
    rw [show putF f v ((k, x) :: r) = (if k = f then (k, v) :: r else (k, x) :: putF f v r) from rfl]
    by_cases hk : k = f
    · rw [if_pos hk, List.length_cons, List.length_cons]; omega
    · rw [if_neg hk, List.length_cons, List.length_cons]; omega

theorem RelO.some_of {v : V} {o : Option Value} (r : RelO (some v) o) : ∃ u, o = some u ∧ RelV v u := by
  cases o with
  | none => exact (show False from r).elim
  | some u => exact ⟨u, rfl, r⟩
theorem RelO.none_of {o : Option Value} (r : RelO none o) : o = none := by
  cases o with
  | none => rfl
  | some u => exact (show False from r).elim
theorem handed_of {v : V} {u : Value} (r : RelV v u) : PySem.W.handedIn u = true := by
  cases v with
  | non => cases (show u = Value.none from r); rfl
  | bl b => cases (show u = Value.bool b from r); rfl
  | int i => obtain ⟨t, e⟩ := (show ∃ t, u = Value.int i t from r); cases e; rfl
  | str x => obtain ⟨t, e⟩ := (show ∃ t, u = Value.str x t from r); cases e; rfl
  | byt b => obtain ⟨t, e⟩ := (show ∃ t, u = Value.bytes b t from r); cases e; rfl
  | flt b => obtain ⟨t, e⟩ := (show ∃ t, u = Value.float b t from r); cases e; rfl
  | ref a => cases (show u = Value.ref a from r); rfl
  | ty n => cases (show u = Value.type n from r); rfl

section
variable {P : Program} {w : World} {H H' : Hp} {h h' : Heap} {a C dx : Addr} {fs fs' : List (Str × V)}
theorem ins_get (hok : HOk P w H h) (e : H a = some (.ins C dx fs)) : ∃ mA, ObjM h a dx C mA ∧ (∀ f, RelO (fs.lookup f) (mA f)) ∧ PySem.Within mA (fs.map (·.1)) ∧ fs.length ≤ 1000 ∧ H dx = some (.own a) := by
  obtain ⟨d, z, ne, ob, mA, n, r, q⟩ := (show ObjOk P w H h a (.ins C dx fs) from hok a _ e)
  exact ⟨mA, ⟨ob, n, ne⟩, r, q, z, d⟩
end


structure Cls (K : PySem.W.Frag) (C : Addr) : Prop where
  pg : PySem.W.plainGet K C Str.empty = true
  hd : PySem.W.hasDictIn K C = true
  po : PySem.W.plainOver K C = true
  sa : PySem.W.findIn K (.ref C) "__setattr__" = some (some (.builtin "object.__setattr__"))
theorem Cls.get {K : PySem.W.Frag} {C : Addr} (c : Cls K C) (f : Str) : PySem.W.plainGet K C f = true := c.pg

def NoAttr (K : PySem.W.Frag) (C : Addr) (f : Str) : Prop := PySem.W.findIn K (.ref C) f = some none
theorem NoAttr.taker {K : PySem.W.Frag} {C : Addr} {f : Str} (n : NoAttr K C f) : PySem.W.takerIn K C f = some none := by
  unfold PySem.W.takerIn
  rw [show PySem.W.findIn K (.ref C) f = some none from n]
  rfl

structure Con (K : PySem.W.Frag) (C : Addr) (f : Str) (v : V) (u : Value) : Prop where
  at_ : PySem.W.findIn K (.ref C) f = some (some u)
  rel : RelV v u
  get : PySem.W.specialIn K u "__get__" = some none
  cp : PySem.W.copiedNames.contains f = false

structure Meth (K : PySem.W.Frag) (C : Addr) (m : Str) (f : Addr) : Prop where
  at_ : PySem.W.findIn K (.ref C) m = some (some (.ref f))
  fn : PySem.W.isFn K (.ref f) = true
  kp : PySem.W.keepIn K (.ref f) = true

section
variable {X : Cx} {pins : List (Addr × Obj)} {σ : St} {H : Hp} {s : Shared} {a C dx : Addr} {fs : List (Str × V)} {f : Str} {v : V} {A : Around} {E : Value → Shared → Prop}

theorem getattr_ok {b : Bool} {Q : Value → Shared → Prop} (I : Inv X pins σ H s) (e : H a = some (.ins C dx fs)) (c : Cls X.K C) (n : NoAttr X.K C f) (l : fs.lookup f = some v)
    (h : ∀ u s', Inv X pins σ H s' → RelV v u → Q u s') : wpAny (model X.prog X.w) A (getAttr (.ref a) f b) Q E s := by
  obtain ⟨mA, O, r, _, _, _⟩ := ins_get I.hok e
  obtain ⟨u, hu, ru⟩ := RelO.some_of (v := v) (o := mA f) (by rw [← l]; exact r f)
  exact get_map I.kIn O (c.get f) c.hd n hu (handed_of ru) (h u _ (I.tok _) ru)

theorem getmeth_ok {m : Str} {g : Addr} {pl : Sem Bool} {Q : Value × List Value → Shared → Prop} (I : Inv X pins σ H s) (e : H a = some (.ins C dx fs)) (c : Cls X.K C) (k : Meth X.K C m g) (l : fs.lookup m = none)
    (h : Q (.ref g, [.ref a]) s) : wpAny (model X.prog X.w) A (getMethod (.ref a) m pl) Q E s := by
  obtain ⟨mA, O, r, _, _, _⟩ := ins_get I.hok e
  have hn : mA m = none := RelO.none_of (by rw [← l]; exact r m)
  exact get_meth I.kIn O (c.get m) k.at_ k.fn hn h

theorem setattr_ok {y : V} {u : Value} {Q : Unit → Shared → Prop} (I : Inv X pins σ H s) (e : H a = some (.ins C dx fs)) (c : Cls X.K C) (n : NoAttr X.K C f) (hl : fs.length < 1000) (ry : RelV y u)
    (h : ∀ s', Inv X pins σ (upd H a (.ins C dx (putF f y fs))) s' → Q () s') : wpAny (model X.prog X.w) A (setAttr (.ref a) f u) Q E s := by
  obtain ⟨mA, O, r, wi, _, ho⟩ := ins_get I.hok e
  have hz : (fs.map (·.1)).length ≤ sizeLine := by rw [List.length_map, sizeLine_eq]; omega
  refine set_map I.kIn O c.sa c.po n.taker c.hd wi hz fun h' O' sb => h _ ?_
  have hd : ∃ o, h'.get? dx = some o := let ⟨o, _, _, e', _⟩ := O'.ns; ⟨o, e'⟩
  refine I.write (x := a) (e := dx) (by rw [e]; exact True.intro) (.inr ho) (fun b q hb z => (sb.2 b hb).trans z) hd ?_
  refine ⟨by rw [upd_ne O.ne]; exact ho, ?_, O.ne, O'.obj, _, O'.ns, fun g => ?_, fun g hg => ?_⟩
  · have := length_putF f y fs; omega
  · show RelO ((putF f y fs).lookup g) (if g = f then some u else mA g)
    rw [lookup_putF]
    by_cases q : g = f
    · rw [if_pos q, if_pos q]; exact ry
    · rw [if_neg q, if_neg q]; exact r g
  · by_cases q : g = f
    · rw [q]; exact (keys_putF f y fs).1
    · refine (keys_putF f y fs).2 g (wi g fun z => hg ?_)
      show (if g = f then some u else mA g) = none
      rw [if_neg q]; exact z


theorem Inv.made (I : Inv X pins σ H s) : Inv X pins σ (upd (upd H s.heap.objs.size (.own (s.heap.objs.size + 1))) (s.heap.objs.size + 1) (.ins C s.heap.objs.size []))
    { s with heap := (s.heap.push PySem.W.emptyDict).push (PySem.W.instObj C s.heap.objs.size) } := by
  have e1 : (s.heap.push PySem.W.emptyDict).get? s.heap.objs.size = some PySem.W.emptyDict := Heap.get?_push_size s.heap rfl
  have e2 : ((s.heap.push PySem.W.emptyDict).push (PySem.W.instObj C s.heap.objs.size)).get? (s.heap.objs.size + 1) = some (PySem.W.instObj C s.heap.objs.size) := by
    have := Heap.get?_push_size (s.heap.push PySem.W.emptyDict) (o := PySem.W.instObj C s.heap.objs.size) rfl
    rwa [Heap.size_push] at this
  have e3 : (s.heap.push PySem.W.emptyDict).Ns s.heap.objs.size (fun _ => none) := ⟨PySem.W.emptyDict, #[], _, e1, rfl, (fun e he => absurd he (by simp)), fun _ => rfl⟩
  have I1 := I.laid (a := s.heap.objs.size) (o := .own (s.heap.objs.size + 1)) (h' := s.heap.push PySem.W.emptyDict) (t' := s.toks) (fun b u q => Heap.get?_push_of_some _ q) (Nat.le_refl _) ⟨_, e1⟩
  refine I1.laid (a := s.heap.objs.size + 1) (o := .ins C s.heap.objs.size []) (t' := s.toks) (fun b u q => Heap.get?_push_of_some _ q) (Nat.le_of_eq (Heap.size_push _ _)) ?_
  have ne : s.heap.objs.size ≠ s.heap.objs.size + 1 := Nat.ne_of_lt (Nat.lt_succ_self _)
  refine ⟨by rw [upd_ne ne, upd_same], Nat.zero_le _, ne, e2, fun _ => none, (Heap.Ns1.of_empty e3).at fun o q => Heap.get?_push_of_some _ q, fun _ => True.intro, fun y hy => absurd rfl hy⟩


theorem attr_of {prog : Program} {w : World} {env : Env} {e : Expr} {f : Str} {pos : Pos} {s : Shared} {Q : Value → Shared → Prop} (hb : attributeBase e f env (eval e env) = eval e env)
    (h : wpAny (model prog w) A (eval e env) (fun o s₁ => wpAny (model prog w) A (getAttr o f true) Q E s₁) E s) : wpAny (model prog w) A (eval (.Attribute e f pos) env) Q E s :=
  Attribute_any_ h (by rw [arm_eval_Attribute, hb])
end



def tFld (K : PySem.W.Frag) (ta : TE) (f : Str) : TE := fun σ H Q => ta σ H fun x H1 => ∃ a C dx fs v, x = .ref a ∧ H1 a = some (.ins C dx fs) ∧ Cls K C ∧ NoAttr K C f ∧ fs.lookup f = some v ∧ Q v H1

def tCon (K : PySem.W.Frag) (ta : TE) (f : Str) : TE := fun σ H Q => ta σ H fun x H1 => ∃ a C dx fs v u, x = .ref a ∧ H1 a = some (.ins C dx fs) ∧ Cls K C ∧ Con K C f v u ∧ fs.lookup f = none ∧ Q v H1

def sFld (K : PySem.W.Frag) (ta tv : TE) (f : Str) : TS := fun D σ H => tv σ H fun y H1 => ta σ H1 fun x H2 => ∃ a C dx fs, x = .ref a ∧ H2 a = some (.ins C dx fs) ∧ Cls K C ∧ NoAttr K C f ∧ fs.length < 1000 ∧
  D.nx σ (upd H2 a (.ins C dx (putF f y fs)))

def InOp (X : Cx) (op : Operator) (rd : V → V → Hp → VK → Prop) : Prop :=
  ∀ (pins : List (Addr × Obj)) (s : Shared) (σ : St) (H : Hp) (x y : V) (u v : Value) (Q : VK), Inv X pins σ H s → RelV x u → RelV y v → rd x y H Q → wpAny (model X.prog X.w) X.A (inplaceOp op u v) (EP X pins σ Q) X.xe s

def sFldAug (K : PySem.W.Frag) (ta tv : TE) (rd : V → V → Hp → VK → Prop) (f : Str) : TS := fun D σ H => ta σ H fun x H1 => ∃ a C dx fs v, x = .ref a ∧ H1 a = some (.ins C dx fs) ∧ Cls K C ∧ NoAttr K C f ∧ fs.lookup f = some v ∧
  tv σ H1 fun y H2 => rd v y H2 fun z H3 => ∃ dx' fs', H3 a = some (.ins C dx' fs') ∧ fs'.length < 1000 ∧ D.nx σ (upd H3 a (.ins C dx' (putF f z fs')))

section
variable {X : Cx} {o e value : Expr} {f : Str} {pos pos' tpos : Pos} {ta tv : TE}
theorem pe_fld (he : PE X e ta) (hb : attributeBase e f X.env (eval e X.env) = eval e X.env) : PE X (.Attribute e f pos) (tFld X.K ta f) := by
  intro pins s σ H Q I h
  refine attr_of hb (thn (he pins s σ H _ I h) fun u s1 ⟨x, H1, I1, rx, a, C, dx, fs, v, ex, ea, c, n, l, q⟩ => ?_)
  subst ex
  obtain rfl : u = Value.ref a := rx
  exact getattr_ok I1 ea c n l fun u' s2 I2 ru => ⟨v, H1, I2, ru, q⟩
theorem ps_fld (ha : PE X o ta) (hv : PE X value tv) (hs : swapsWith value (some (.Attribute o f pos')) pos.line X.env = pure false) : PS X (.Assign [.Attribute o f pos'] value pos) (sFld X.K ta tv f) := by
  intro pins s σ H D I h
  refine plainObj_wpAny_Assign_Attribute (thn (hv pins s σ H _ I h) fun u s1 ⟨y, H1, I1, ry, q⟩ => thn (ha pins s1 σ H1 _ I1 q) fun ov s2 ⟨x, H2, I2, rx, a, C, dx, fs, ex, ea, c, n, l, q2⟩ => ?_) hs
  subst ex
  obtain rfl : ov = Value.ref a := rx
  exact setattr_ok I2 ea c n l ry fun s3 I3 => ⟨σ, _, I3, q2⟩
def rAdd : V → V → Hp → VK → Prop := fun x y H Q => ∃ i j, x = .int i ∧ y = .int j ∧ Q (.int (i + j)) H
def rSub : V → V → Hp → VK → Prop := fun x y H Q => ∃ i j, x = .int i ∧ y = .int j ∧ Q (.int (i - j)) H
end


section
variable {X : Cx} {pins : List (Addr × Obj)} {σ : St} {H : Hp} {s : Shared} {A : Around} {E : Value → Shared → Prop} {Q : Value → Shared → Prop} {c : Value} {b : Bool}

inductive TyOf (K : PySem.W.Frag) (H : Hp) : V → Value → Prop where
  | non : TyOf K H .non (.type "NoneType")
  | bl (x : Bool) : TyOf K H (.bl x) (.type "bool")
  | int (i : Int) : TyOf K H (.int i) (.type "int")
  | str (x : Str) : TyOf K H (.str x) (.type "str")
  | flt (x : UInt64) : TyOf K H (.flt x) (.type "float")
  | lst {a : Addr} {xs : List V} (e : H a = some (.lst xs)) : TyOf K H (.ref a) (.type "list")
  | frz {a : Addr} {o : Obj} {xs : List V} (e : H a = some (.frz o (.lst xs))) : TyOf K H (.ref a) (.type "list")
  | tup {a : Addr} {xs : List V} (e : H a = some (.tup xs)) : TyOf K H (.ref a) (.type "tuple")
  | dK {a : Addr} {kvs : List (Key × V)} (e : H a = some (.dK kvs)) : TyOf K H (.ref a) (.type "dict")
  | dT {a : Addr} {kvs : List (List Key × V)} (e : H a = some (.dT kvs)) : TyOf K H (.ref a) (.type "dict")
  | ins {a C dx : Addr} {fs : List (Str × V)} (e : H a = some (.ins C dx fs)) (cl : Cls K C) (ha : PySem.W.findIn K (.ref C) "__class__" = some (some (.builtin "object.__class__")))
      (hn : PySem.W.specialIn K (.builtin "object.__class__") "__get__" = some (some (.builtin "getset_descriptor.__get__"))) (htk : PySem.W.takesIn K (.builtin "object.__class__") = some true)
      (hm : PySem.W.mroIn K C (.type "object") = some true) : TyOf K H (.ref a) (.ref C)

end
end L2

namespace L2
open PySem PySem.Spec PyProof.Rows


structure Room (k : Nat) (A : Around) : Prop where
  hd : A.handled = none
  dp : A.depth + 3 * k + 5 < recursionLimit
  un : A.units + 16 * k + 200 < cLine
  gd : A.guards = some []
theorem Room.mono {j k : Nat} {A : Around} (r : Room k A) (h : j ≤ k) : Room j A := ⟨r.hd, by have := r.dp; omega, by have := r.un; omega, r.gd⟩
theorem Room.deeper {k : Nat} {A : Around} (r : Room (k + 1) A) (env : Env) : Room k (A.deeper env) :=
  ⟨r.hd, by have := r.dp; show A.depth + 1 + 3 * k + 5 < _; omega, by have := r.un; show A.units + 3 + 16 * k + 200 < _; omega, r.gd⟩
theorem Room.in1 {k : Nat} {A : Around} (r : Room (k + 1) A) : Room k A.in1 :=
  ⟨r.hd, by have := r.dp; show A.depth + 3 * k + 5 < _; omega, by have := r.un; show A.units + 1 + 16 * k + 200 < _; omega, r.gd⟩
theorem make_depth {A : Around} {C : Addr} {us : List Value} {kw : List (Str × Value)} : (A.under (.builtin "type.__call__" ⟨.ref C :: us, kw⟩)).depth = A.depth + 1 := by
  first | rfl | simp [Around.under, Code.weight, Code.isCreation, Code.isGuard, Code.isCaller, Code.frames, Code.isFrame, guardIds]
theorem make_guards {A : Around} {C : Addr} {us : List Value} {kw : List (Str × Value)} : (A.under (.builtin "type.__call__" ⟨.ref C :: us, kw⟩)).guards = A.guards := by
  first | rfl | simp [Around.under, Code.weight, Code.isCreation, Code.isGuard, Code.isCaller, Code.frames, Code.isFrame, guardIds]
theorem make_units {A : Around} {C : Addr} {us : List Value} {kw : List (Str × Value)} : (A.under (.builtin "type.__call__" ⟨.ref C :: us, kw⟩)).units = A.units + 1 := by
  first | rfl | simp [Around.under, Code.cUnits, Code.frames, Code.isFrame]
theorem Room.make {k : Nat} {A : Around} (r : Room (k + 1) A) (C : Addr) (us : List Value) (kw : List (Str × Value)) : Room k (A.under (.builtin "type.__call__" ⟨.ref C :: us, kw⟩)) :=
  ⟨r.hd, by have := r.dp; rw [make_depth]; omega, by have := r.un; rw [make_units]; omega, by rw [make_guards]; exact r.gd⟩
theorem Room.depth {k : Nat} {A : Around} (r : Room k A) : A.depth < recursionLimit := by have := r.dp; omega
theorem Room.units {k : Nat} {A : Around} (r : Room k A) : A.units + 64 < cLine := by have := r.un; omega
def tNil : TA := fun _ H Q => Q [] H
def tCons (ta : TE) (tr : TA) : TA := fun σ H Q => ta σ H fun x H1 => tr σ H1 fun xs H2 => Q (x :: xs) H2
section
variable {X : Cx} {e : Expr} {es : List Expr} {te : TE} {t : TA} {pos : Pos}
theorem pa_nil : PA X [] tNil := fun _ _ _ _ H Q I h => Calls.spliced_nil ⟨[], H, I, .nil, h⟩
theorem pa_cons (ha : PE X e te) (hr : PA X es t) (hs : starEach (e :: es) X.env = (false, eval e X.env) :: starEach es X.env := by rfl) : PA X (e :: es) (tCons te t) := by
  intro pos pins s σ H Q I h
  rw [hs]
  show wpAny _ _ (spliced ((false, eval e X.env) :: backTo pos (starEach es X.env))) _ _ s
  refine Calls.spliced_cons (thn (ha pins s σ H _ I h) fun u s1 ⟨x, H1, I1, r1, q1⟩ => ?_)
  exact thn (hr pos pins s1 σ H1 _ I1 q1) fun us s2 ⟨xs, H2, I2, r2, q2⟩ => ⟨x :: xs, H2, I2, .cons r1 r2, q2⟩


def tTup (t : TA) : TE := fun σ H Q => t σ H fun xs H1 => xs.length ≤ sizeLine ∧ ∀ p, H1 p = none → Q (.ref p) (upd H1 p (.tup xs))
def tLst (t : TA) : TE := fun σ H Q => t σ H fun xs H1 => xs.length ≤ sizeLine ∧ ∀ p, H1 p = none → Q (.ref p) (upd H1 p (.lst xs))
theorem pe_tup {x1} (h : PA X es t) : PE X (.Tuple es x1 pos) (tTup t) := by
  intro pins s σ H Q I hq
  refine wpAny_Tuple_spliced (thn (h pos pins s σ H _ I hq) fun us s1 ⟨xs, H1, I1, r, z, q⟩ => ⟨by rw [← r.length]; exact z, ?_⟩)
  have hf : H1 s1.heap.objs.size = none := I1.hok.fresh (Nat.le_refl _)
  refine ⟨.ref s1.heap.objs.size, upd H1 s1.heap.objs.size (.tup xs), I1.laid (t' := s1.toks) (fun b u e => Heap.get?_push_of_some _ e) (Nat.le_refl _) ?_, rfl, q _ hf⟩
  exact ⟨z, us, r, ⟨_, Heap.get?_push_size _ rfl, rfl, rfl, _, rfl⟩⟩
theorem pe_lst (h : PA X es t) : PE X (.List es pos) (tLst t) := by
  intro pins s σ H Q I hq
  refine wpAny_List_spliced (thn (h pos pins s σ H _ I hq) fun us s1 ⟨xs, H1, I1, r, z, q⟩ => ⟨by rw [← r.length]; exact z, ?_⟩)
  have hf : H1 s1.heap.objs.size = none := I1.hok.fresh (Nat.le_refl _)
  refine ⟨.ref s1.heap.objs.size, upd H1 s1.heap.objs.size (.lst xs), I1.laid (t' := s1.toks) (fun b u e => Heap.get?_push_of_some _ e) (Nat.le_refl _) ?_, rfl, q _ hf⟩
  exact ⟨z, us, 0, r, Heap.get?_push_size _ rfl⟩
end



abbrev Sp := List V → Hp → VK → XK → Prop

abbrev CXT := List Env → Hp → Shared → XK → Value → Shared → Prop


structure Env0 (P : Program) (w : World) (K : PySem.W.Frag) (mg : Str → Option Value) (base : Heap) (A : Around) (outer : List Env) (s : Shared) (H : Hp) : Prop where
  frames : A.frames = some outer
  mod : Mod K mg base
  bs : ∀ b o, base.get? b = some o → s.heap.get? b = some o ∧ H b = none
  bsz : base.objs.size ≤ s.heap.objs.size
  funs : s.heap.FunFrames base outer
  frf : ∀ b ∈ frs outer, H b = none
  hok : HOk P w H s.heap
  bare : AllBare s.gens

def CE (outer : List Env) (P : Program) (w : World) (H : Hp) (s : Shared) (Q : VK) (u : Value) (s' : Shared) : Prop :=
  ∃ v H', s'.os = s.os ∧ AllBare s'.gens ∧ Un (frs outer) [] H H' s.heap s'.heap ∧ HOk P w H' s'.heap ∧ RelV v u ∧ Q v H'
def CR (CX : CXT) (outer : List Env) (P : Program) (w : World) (H : Hp) (s : Shared) (Q : VK) (E : XK) (r : Result) (s' : Shared) : Prop :=
  match r with
  | .ok (.ret u) => CE outer P w H s Q u s'
  | .ok _ => False
  | .error e => CX outer H s E e s'
structure FnOk (P : Program) (w : World) (K : PySem.W.Frag) (mg : Str → Option Value) (base : Heap) (CX : CXT) (k : Nat) (f : Addr) (fd : FuncData) (ps : List Str) (sp : Sp) : Prop where
  len : ∀ vs H Q E, sp vs H Q E → vs.length = ps.length
  run : ∀ (A : Around) (outer : List Env) (s : Shared) (H : Hp) (args : Args) (us : List Value) (vs : List V) (Q : VK) (E : XK), Room k A → Env0 P w K mg base A outer s H → BindsTo s fd args (ps.zip us) → Vals vs us → sp vs H Q E →
    codeAny (model P w) A (.call (.ref f) args) (CR CX outer P w H s Q E) s
theorem FnOk.mono {P : Program} {w : World} {K : PySem.W.Frag} {mg : Str → Option Value} {base : Heap} {CX : CXT} {j k : Nat} {f : Addr} {fd : FuncData} {ps : List Str} {sp : Sp} (F : FnOk P w K mg base CX j f fd ps sp) (h : j ≤ k) :
    FnOk P w K mg base CX k f fd ps sp := ⟨F.len, fun A outer s H args us vs Q E hr => F.run A outer s H args us vs Q E (hr.mono h)⟩

theorem Env0.make {P : Program} {w : World} {K : PySem.W.Frag} {mg : Str → Option Value} {base : Heap} {A : Around} {outer : List Env} {s : Shared} {H : Hp} (e : Env0 P w K mg base A outer s H) (C : Addr) (us : List Value) (kw : List (Str × Value)) :
    Env0 P w K mg base (A.under (.builtin "type.__call__" ⟨.ref C :: us, kw⟩)) outer s H := ⟨by first | exact e.frames | (simpa [Around.under, Code.envs, Code.isFrame, pushEnvs] using e.frames), e.mod, e.bs, e.bsz, e.funs, e.frf, e.hok, e.bare⟩
theorem Env0.in1 {P : Program} {w : World} {K : PySem.W.Frag} {mg : Str → Option Value} {base : Heap} {A : Around} {outer : List Env} {s : Shared} {H : Hp} (e : Env0 P w K mg base A outer s H) :
    Env0 P w K mg base A.in1 outer s H := ⟨e.frames, e.mod, e.bs, e.bsz, e.funs, e.frf, e.hok, e.bare⟩

section
variable {X : Cx} {pins : List (Addr × Obj)} {σ : St} {H : Hp} {s s' : Shared}

theorem Inv.env0 (I : Inv X pins σ H s) : Env0 X.prog X.w X.K X.mg X.base X.A X.stack s H :=
  ⟨I.ok.frames, I.ok.mod, I.bs, Nat.le_trans I.ok.bsz I.sz, I.stack, I.stkFree, I.hok, I.bare⟩

theorem Inv.after {Q : VK} {u : Value} (I : Inv X pins σ H s) (h : CE X.stack X.prog X.w H s Q u s') : EP X pins σ Q u s' := by
  obtain ⟨v, H', os, bare, un, hok, r, q⟩ := h
  obtain ⟨hh, g, d, t, os'⟩ := s'
  obtain rfl : os' = s.os := os
  exact ⟨v, H', I.call (h' := hh) (g' := g) (d' := d) (t' := t) (ch := []) un hok bare (fun b z => absurd z (by simp)), r, q⟩
end



def tCall (sp : Sp) (dvs : List V) (E : XK) (t : TA) : TE := fun σ H Q => t σ H fun vs H1 => sp (vs ++ dvs) H1 Q E

def tMeth (C : Addr) (m : Str) (sp : Sp) (dvs : List V) (E : XK) (ta : TE) (t : TA) : TE := fun σ H Q => ta σ H fun x H1 => ∃ a dx fs, x = .ref a ∧ H1 a = some (.ins C dx fs) ∧ fs.lookup m = none ∧
  t σ H1 fun vs H2 => sp (x :: (vs ++ dvs)) H2 Q E

def tMake (C : Addr) (sp : Sp) (dvs : List V) (E : XK) (t : TA) : TE := fun σ H Q => t σ H fun vs H1 => ∀ x dx, H1 x = none → H1 dx = none → dx ≠ x →
  sp (.ref x :: (vs ++ dvs)) (upd (upd H1 dx (.own x)) x (.ins C dx [])) (fun v H2 => v = .non ∧ Q (.ref x) H2) E


def Binds (K : PySem.W.Frag) (fd : FuncData) (ps : List Str) (ds : List Value) : Prop :=
  ∀ (s : Shared) (us : List Value), K.In s.heap → (us ++ ds).length = ps.length → BindsTo s fd ⟨us, []⟩ (ps.zip (us ++ ds))

theorem Binds.all {K : PySem.W.Frag} {fd : FuncData} {ps : List Str} (h : ∀ us : List Value, us.length = ps.length → bindArgs fd ⟨us, []⟩ = pure (ps.zip us)) : Binds K fd ps [] := fun s us _ hl => by
  rw [List.append_nil] at hl ⊢
  exact .of_eq (h us hl)


def Passes (CX : CXT) (X : Cx) (E : XK) : Prop := ∀ (pins : List (Addr × Obj)) (σ : St) (H : Hp) (s : Shared) (e : Value) (s' : Shared), Inv X pins σ H s → CX X.stack H s E e s' → X.xe e s'

section
variable {X : Cx} {CX : CXT} {k : Nat} {f C : Addr} {fd : FuncData} {ps : List Str} {sp : Sp} {dvs : List V} {ds : List Value} {E : XK} {x m : Str} {p pos apos : Pos} {e o : Expr} {es : List Expr} {ta : TE} {t : TA}


theorem run_fn {pins : List (Addr × Obj)} {σ : St} {H : Hp} {s : Shared} {Q : VK} {us : List Value} {vs : List V} (F : FnOk X.prog X.w X.K X.mg X.base CX k f fd ps sp) (hr : Room k X.A) (hb : Binds X.K fd ps ds) (hd : Vals dvs ds) (hx : Passes CX X E)
    (I : Inv X pins σ H s) (r : Vals vs us) (h : sp (vs ++ dvs) H Q E) : wpAny (model X.prog X.w) X.A (call (.ref f) us) (EP X pins σ Q) X.xe s := by
  have r2 : Vals (vs ++ dvs) (us ++ ds) := r.append hd
  have hl : (us ++ ds).length = ps.length := by rw [← r2.length]; exact F.len _ _ _ _ h
  refine wpAny_call (codeAny_mono (F.run X.A X.stack s H ⟨us, []⟩ (us ++ ds) (vs ++ dvs) Q E hr I.env0 (hb s us I.kIn hl) r2 h) fun r s' hq => ?_)
  cases r with
  | error e => exact hx pins σ H s e s' I hq
  | ok fl =>
    cases fl with
    | ret u => exact I.after hq
    | next => exact False.elim hq
    | brk => exact False.elim hq
    | cont => exact False.elim hq

theorem pe_call (F : FnOk X.prog X.w X.K X.mg X.base CX k f fd ps sp) (hr : Room k X.A) (hg : Gl X x) (hm : X.mg x = some (.ref f)) (hk : PySem.W.keepIn X.K (.ref f) = true) (hb : Binds X.K fd ps ds) (hd : Vals dvs ds) (hx : Passes CX X E)
    (ha : PA X (e :: es) t) (hdb : (x == ("__debug__" : Str)) = false := by decide) (he : starEach (e :: es) X.env = (false, eval e X.env) :: starEach es X.env := by rfl) (hpl : (backTo pos (starEach es X.env)).any (·.1) = false := by rfl) :
    PE X (.Call (.Name x p) (e :: es) [] pos) (tCall sp dvs E t) := by
  intro pins s σ H Q I h
  refine wpAny_Call_Name_kw (ld_glob I hg hm ?_ hdb)
  refine PySem.W.callWith_K (h₀ := X.base) I.ok.mod.kin hk (thn (ha pos pins s σ H _ I h) fun us s1 ⟨vs, H1, I1, r, q⟩ => ⟨I1.kIn, ?_⟩) he hpl
  exact run_fn F hr hb hd hx I1 r q
theorem pe_meth {pl : Sem Bool} (he : PE X o ta) (c : Cls X.K C) (hm : Meth X.K C m f) (F : FnOk X.prog X.w X.K X.mg X.base CX k f fd ps sp) (hr : Room k X.A) (hb : Binds X.K fd ps ds) (hd : Vals dvs ds) (hx : Passes CX X E) (ha : PA X (e :: es) t)
    (hst : starEach (e :: es) X.env = (false, eval e X.env) :: starEach es X.env := by rfl) (hpl : (backTo pos (starEach es X.env)).any (·.1) = false := by rfl)
    (ht : eval (.Call (.Attribute o m apos) (e :: es) [] pos) X.env = (do
      let ov ← eval o X.env
      standAt apos.atName
      let (f, first) ← holding [ov] (getMethod ov m pl)
      callWith pos f first (backTo pos (starEach (e :: es) X.env)) (backToKw pos (keywordEach [] X.env))) := by rfl) :
    PE X (.Call (.Attribute o m apos) (e :: es) [] pos) (tMeth C m sp dvs E ta t) := by
  intro pins s σ H Q I h
  refine PySem.W.methodCall_KW (pl := pl) (thn (he pins s σ H _ I h) fun u s1 ⟨x, H1, I1, rx, a, dx, fs, ex, ea, l, q⟩ => ?_) ht
  subst ex
  obtain rfl : u = Value.ref a := rx
  refine getmeth_ok I1 ea c hm l ?_
  refine PySem.W.callWith_K (first := [.ref a]) (h₀ := X.base) I.ok.mod.kin hm.kp (thn (ha pos pins s1 σ H1 _ I1 q) fun us s2 ⟨vs, H2, I2, r, q2⟩ => ⟨I2.kIn, ?_⟩) hst hpl
  exact run_fn (us := .ref a :: us) (vs := .ref a :: vs) F hr hb hd hx I2 (.cons rfl r) q2

theorem pe_meth0 {pl : Sem Bool} (he : PE X o ta) (c : Cls X.K C) (hm : Meth X.K C m f) (F : FnOk X.prog X.w X.K X.mg X.base CX k f fd ps sp) (hr : Room k X.A) (hb : Binds X.K fd ps ds) (hd : Vals dvs ds) (hx : Passes CX X E)
    (ht : eval (.Call (.Attribute o m apos) [] [] pos) X.env = (do
      let ov ← eval o X.env
      standAt apos.atName
      let (f, first) ← holding [ov] (getMethod ov m pl)
      callWith pos f first (backTo pos (starEach [] X.env)) (backToKw pos (keywordEach [] X.env))) := by rfl) :
    PE X (.Call (.Attribute o m apos) [] [] pos) (tMeth C m sp dvs E ta tNil) := by
  intro pins s σ H Q I h
  refine PySem.W.methodCall_KW (pl := pl) (thn (he pins s σ H _ I h) fun u s1 ⟨x, H1, I1, rx, a, dx, fs, ex, ea, l, q⟩ => ?_) ht
  subst ex
  obtain rfl : u = Value.ref a := rx
  refine getmeth_ok I1 ea c hm l ?_
  exact PySem.W.callWith_K0 (first := [.ref a]) I1.kIn hm.kp (run_fn (us := [.ref a]) (vs := [.ref a]) F hr hb hd hx I1 (.cons rfl .nil) q)


structure Mk (K : PySem.W.Frag) (C f : Addr) : Prop where
  makes : PySem.W.makesIn K C = true
  init : PySem.W.findIn K (.ref C) "__init__" = some (some (.ref f))
  fn : PySem.W.isFn K (.ref f) = true
  kp : PySem.W.keepIn K (.ref C) = true

theorem run_make {pins : List (Addr × Obj)} {σ : St} {H : Hp} {s : Shared} {Q : VK} {us : List Value} {vs : List V} (M : Mk X.K C f) (F : FnOk X.prog X.w X.K X.mg X.base CX k f fd ps sp) (hr : Room (k + 1) X.A) (hb : Binds X.K fd ps ds) (hd : Vals dvs ds)
    (hx : Passes CX X E) (I : Inv X pins σ H s) (r : Vals vs us)
    (h : ∀ x dx, H x = none → H dx = none → dx ≠ x → sp (.ref x :: (vs ++ dvs)) (upd (upd H dx (.own x)) x (.ins C dx [])) (fun v H2 => v = .non ∧ Q (.ref x) H2) E) :
    wpAny (model X.prog X.w) X.A (call (.ref C) us) (EP X pins σ Q) X.xe s := by
  have hq := h (s.heap.objs.size + 1) s.heap.objs.size (I.hok.fresh (Nat.le_succ _)) (I.hok.fresh (Nat.le_refl _)) (Nat.ne_of_lt (Nat.lt_succ_self _))
  have I2 := Inv.made (C := C) I
  have r2 : Vals (V.ref (s.heap.objs.size + 1) :: (vs ++ dvs)) (Value.ref (s.heap.objs.size + 1) :: (us ++ ds)) := .cons rfl (r.append hd)
  have hl : (Value.ref (s.heap.objs.size + 1) :: us ++ ds).length = ps.length := by
    have e := r2.length
    rw [F.len _ _ _ _ hq] at e
    exact e.symm
  refine wpAny_call (make_map (f := f) I.kIn M.makes M.init (beq_iff_eq.mp M.fn) (codeAny_mono (F.run _ X.stack _ _ ⟨Value.ref (s.heap.objs.size + 1) :: us, []⟩ (Value.ref (s.heap.objs.size + 1) :: (us ++ ds)) _ _ E (hr.make C us [])
    (I2.env0.make C us []) (hb _ (Value.ref (s.heap.objs.size + 1) :: us) I2.kIn hl) r2 hq) fun r s' hq' => ?_))
  cases r with
  | error e => exact hx pins σ _ _ e s' I2 hq'
  | ok fl =>
    cases fl with
    | ret u =>
      obtain ⟨v, H', I3, rv, ev, q3⟩ := I2.after hq'
      subst ev
      exact ⟨rv, ⟨V.ref (s.heap.objs.size + 1), H', I3, rfl, q3⟩⟩
    | next => exact False.elim hq'
    | brk => exact False.elim hq'
    | cont => exact False.elim hq'
theorem pe_make (M : Mk X.K C f) (F : FnOk X.prog X.w X.K X.mg X.base CX k f fd ps sp) (hr : Room (k + 1) X.A) (hg : Gl X x) (hm : X.mg x = some (.ref C)) (hb : Binds X.K fd ps ds) (hd : Vals dvs ds) (hx : Passes CX X E)
    (ha : PA X (e :: es) t) (hdb : (x == ("__debug__" : Str)) = false := by decide) (he : starEach (e :: es) X.env = (false, eval e X.env) :: starEach es X.env := by rfl) (hpl : (backTo pos (starEach es X.env)).any (·.1) = false := by rfl) :
    PE X (.Call (.Name x p) (e :: es) [] pos) (tMake C sp dvs E t) := by
  intro pins s σ H Q I h
  refine wpAny_Call_Name_kw (ld_glob I hg hm ?_ hdb)
  refine PySem.W.callWith_K (h₀ := X.base) I.ok.mod.kin M.kp (thn (ha pos pins s σ H _ I h) fun us s1 ⟨vs, H1, I1, r, q⟩ => ⟨I1.kIn, ?_⟩) he hpl
  exact run_make M F hr hb hd hx I1 r q
end



def PK (X : Cx) (kws : List Keyword) (t : TA) : Prop :=
  ∀ (pos : Pos) (pins : List (Addr × Obj)) (s : Shared) (σ : St) (H : Hp) (Q : List V → Hp → Prop), Inv X pins σ H s → t σ H Q → wpAny (model X.prog X.w) X.A (evalAll ((backToKw pos (keywordEach kws X.env)).map (·.2))) (AP X pins σ Q) X.xe s
section
variable {X : Cx} {CX : CXT} {k : Nat} {f C : Addr} {fd : FuncData} {ps ks : List Str} {sp : Sp} {E : XK} {x m : Str} {p pos apos kpos : Pos} {e o : Expr} {es : List Expr} {kws : List Keyword} {te ta : TE} {t tk : TA} {nm : Option Str}
structure KBinds (K : PySem.W.Frag) (fd : FuncData) (ps ks : List Str) (g : List Value → List Value → List Value) (gV : List V → List V → List V) : Prop where
  to : ∀ (s : Shared) (us ws : List Value), K.In s.heap → (g us ws).length = ps.length → BindsTo s fd ⟨us, ks.zip ws⟩ (ps.zip (g us ws))
  rel : ∀ {vs : List V} {us : List Value} {zs : List V} {ws : List Value}, Vals vs us → Vals zs ws → Vals (gV vs zs) (g us ws)
def tCallK (sp : Sp) (gV : List V → List V → List V) (E : XK) (t tk : TA) : TE := fun σ H Q => t σ H fun vs H1 => tk σ H1 fun zs H2 => sp (gV vs zs) H2 Q E
variable {g : List Value → List Value → List Value} {gV : List V → List V → List V}
end



structure FnScope (N P : List Str) (sc : Scope) : Prop where
  kind : sc.kind = .function
  co : sc.isCoroutine = false
  gen : sc.isGenerator = false
  nd : N.Nodup
  pre : N.take P.length = P
  par : ∀ x ∈ P, sc.names.lookup x = some .local ∨ sc.names.lookup x = some .cell
  nofree : ∀ y ∈ sc.names, y.2 ≠ .free

theorem bindL_out {kindOf : Str → Option NameKind} {x : Str} : ∀ {binds : List (Str × Value)} {m : Str → Option Value}, (∀ v, (x, v) ∉ binds) → bindL kindOf binds m x = m x
  | [], _, _ => rfl
  | (n, v) :: r, m, h => by
    unfold bindL
    rw [bindL_out fun w hw => h w (List.mem_cons_of_mem _ hw)]
    split
    · have : x ≠ n := by rintro rfl; exact h v List.mem_cons_self
      simp [this]
    · rfl
theorem bindC_out {kindOf : Str → Option NameKind} {x : Str} : ∀ {binds : List (Str × Value)} {m : Str → Option Value}, (∀ v, (x, v) ∉ binds) → bindC kindOf binds m x = m x
  | [], _, _ => rfl
  | (n, v) :: r, m, h => by
    unfold bindC
    rw [bindC_out fun w hw => h w (List.mem_cons_of_mem _ hw)]
    split
    · rfl
    · have : x ≠ n := by rintro rfl; exact h v List.mem_cons_self
      simp [this]
theorem bindL_get {kindOf : Str → Option NameKind} {x : Str} {v : Value} : ∀ {P : List Str} {vs : List Value} {i : Nat} {m : Str → Option Value}, P.Nodup → P[i]? = some x → vs[i]? = some v → kindOf x = some .local →
    bindL kindOf (P.zip vs) m x = some v
  | [], _, _, _, _, h, _, _ => by simp at h
  | _ :: _, [], _, _, _, _, h, _ => by simp at h
  | p :: P, w :: vs, 0, m, nd, h1, h2, hk => by
    simp at h1 h2; subst h1; subst h2
    show bindL kindOf ((p, w) :: P.zip vs) m p = _
    unfold bindL
    rw [bindL_out fun v hv => (List.nodup_cons.mp nd).1 (List.of_mem_zip hv).1, if_pos hk]
    simp
  | p :: P, w :: vs, i + 1, m, nd, h1, h2, hk => by
    show bindL kindOf ((p, w) :: P.zip vs) m x = _
    unfold bindL
    exact bindL_get (i := i) (List.nodup_cons.mp nd).2 (by simpa using h1) (by simpa using h2) hk
theorem bindC_get {kindOf : Str → Option NameKind} {x : Str} {v : Value} : ∀ {P : List Str} {vs : List Value} {i : Nat} {m : Str → Option Value}, P.Nodup → P[i]? = some x → vs[i]? = some v → kindOf x ≠ some .local →
    bindC kindOf (P.zip vs) m x = some v
  | [], _, _, _, _, h, _, _ => by simp at h
  | _ :: _, [], _, _, _, _, h, _ => by simp at h
  | p :: P, w :: vs, 0, m, nd, h1, h2, hk => by
    simp at h1 h2; subst h1; subst h2
    show bindC kindOf ((p, w) :: P.zip vs) m p = _
    unfold bindC
    rw [bindC_out fun v hv => (List.nodup_cons.mp nd).1 (List.of_mem_zip hv).1, if_neg hk]
    simp
  | p :: P, w :: vs, i + 1, m, nd, h1, h2, hk => by
    show bindC kindOf ((p, w) :: P.zip vs) m x = _
    unfold bindC
    exact bindC_get (i := i) (List.nodup_cons.mp nd).2 (by simpa using h1) (by simpa using h2) hk


def start (N : List Str) (vs : List V) : St := vs.map some ++ List.replicate (N.length - vs.length) none


def cxOf (CX : CXT) (P : Program) (w : World) (K : PySem.W.Frag) (mg : Str → Option Value) (base : Heap) (N : List Str) (qual : Str) (scope : Scope) (f : Addr) (cd : Value) (A : Around) (outer : List Env) (s : Shared) (H : Hp) (E : XK) : Cx where
  prog := P
  w := w
  K := K
  mg := mg
  base := base
  A := A.deeper (envOfC qual scope s.heap.objs.size f cd)
  N := N
  s₀ := s
  H₀ := H
  env := envOfC qual scope s.heap.objs.size f cd
  outer := outer
  stack := envOfC qual scope s.heap.objs.size f cd :: outer
  ex := []
  calm := true
  fn := fun _ => true
  pn := []
  xe := fun e s' => wpAny (model P w) (A.deeper (envOfC qual scope s.heap.objs.size f cd)) (leaving (envOfC qual scope s.heap.objs.size f cd) e) (fun _ s'' => CX outer H s E e s'') (fun e' s'' => CX outer H s E e' s'') s'

theorem cell_has {sc : Scope} {n : Nat} {x : Str} (h : sc.names.lookup x = some .cell) : ∃ c, (cellsFrom n sc.names []).lookup x = some c := by
  have q := PySem.W.cellsFrom_some sc.names n [] (.inl h)
  exact Option.isSome_iff_exists.mp q

theorem inv_start {CX : CXT} {P : Program} {w : World} {K : PySem.W.Frag} {mg : Str → Option Value} {base : Heap} {N ps : List Str} {qual : Str} {scope : Scope} {f : Addr} {cd : Value} {A : Around} {outer : List Env} {s s1 : Shared} {H : Hp} {E : XK} {us : List Value} {vs : List V}
    (S : FnScope N ps scope) (hd : A.handled = none) (e0 : Env0 P w K mg base A outer s H) (hl : vs.length = ps.length) (r : Vals vs us)
    (x : InCallC s s.heap.objs.size (bindL (envOfC qual scope s.heap.objs.size f cd).kindOf (ps.zip us) fun _ => none) (cellsFrom (s.heap.objs.size + 1) scope.names []) (bindC (envOfC qual scope s.heap.objs.size f cd).kindOf (ps.zip us) fun _ => none) s1) :
    Inv (cxOf CX P w K mg base N qual scope f cd A outer s H E) [] (start N vs) H s1 := by
  have hpl : ps.length ≤ N.length := by have := congrArg List.length S.pre; rw [List.length_take] at this; omega
  obtain ⟨h1, tk, rfl, hk⟩ := x.done
  have noA : ∀ b : Addr, b ∉ (cxOf CX P w K mg base N qual scope f cd A outer s H E).ex := fun b z => absurd (show b ∈ ([] : List Addr) from z) (by simp)
  refine ⟨⟨e0.mod, S.kind, rfl, rfl, Nat.le_refl _, fun y z c h1 h2 => ?_, fun y hy => ?_, fun y c _ h => ?_, fun _ => hd, Around.frames_deeper e0.frames, .inr ⟨rfl, rfl⟩, fun b z => absurd z (noA b), e0.bs, e0.bsz, fun b _ _ => noA b, fun b z => absurd z (noA b), e0.funs, e0.frf⟩,
    rfl, e0.bare, Un.kept hk, ⟨_, x.toInCall.ns, fun i y v h1 h2 h3 => ?_⟩, fun y c h => ⟨_, x.cell y c h⟩, e0.hok.fresh (Nat.le_refl _), fun y c h => ?_, fun p hp => absurd (show p ∈ ([] : List (Addr × Obj)) from hp) (by simp), e0.hok.kept hk, ?_⟩
  · exact name_of_addr x.apart (PySem.mem_of_lookup h1) (PySem.mem_of_lookup h2)
  · have hy : scope.names.lookup y = some .cell ∨ scope.names.lookup y = some .free := hy
    rcases hy with hy | hy
    · exact cell_has hy
    · exact absurd rfl (S.nofree _ (PySem.mem_of_lookup hy))
  · exact Nat.le_of_lt (x.above y c (PySem.mem_of_lookup h))
  · have hi : i < vs.length := by
      unfold start at h2
      by_cases hi : i < vs.length
      · exact hi
      · rw [List.getElem?_append_right (by simpa using hi)] at h2
        rw [List.getElem?_replicate] at h2
        split at h2 <;> cases h2
    have ha : vs[i]? = some v := by
      unfold start at h2
      rw [List.getElem?_append_left (by simpa using hi), List.getElem?_map] at h2
      cases e : vs[i]? with
      | none => rw [e] at h2; cases h2
      | some a => rw [e] at h2; cases h2; rfl
    obtain ⟨u, hu, rv⟩ := r.get ha
    have hp : ps[i]? = some y := by
      rw [← S.pre, List.getElem?_take_of_lt (by omega)]; exact h1
    have ndP : ps.Nodup := by rw [← S.pre]; exact S.nd.sublist (List.take_sublist _ _)
    refine ⟨u, rv, ?_⟩
    rcases S.par y (List.mem_of_getElem? hp) with k | k
    · exact .inl ⟨k, bindL_get ndP hp hu k⟩
    · obtain ⟨c, e⟩ := cell_has (n := s.heap.objs.size + 1) k
      refine .inr ⟨.inl k, c, e, ?_⟩
      have q := x.cell y c e
      rw [bindC_get ndP hp hu (by show scope.names.lookup y ≠ _; rw [k]; decide)] at q
      exact q
  · exact e0.hok.fresh (Nat.le_of_lt (x.above y c (PySem.mem_of_lookup h)))
  · unfold start
    show _ = N.length
    rw [List.length_append, List.length_map, List.length_replicate]
    omega


theorem fn_of {CX : CXT} {P : Program} {w : World} {K : PySem.W.Frag} {mg : Str → Option Value} {base : Heap} {k : Nat} {f : Addr} {name qual : Str} {params : Arguments} {body : List Stmt} {scope : Scope} {dV kV doc pm cdv ct oc : Value} {an od : Option Addr}
    {osl : Array (Option Value)} {N ps : List Str} {sp : Sp} (lk : K.lookup f = some ⟨oc, od, .func (PySem.W.fnOf name qual params body scope dV kV doc pm an cdv ct), osl⟩) (hcd : PySem.W.codeIn K cdv qual = true) (S : FnScope N ps scope)
    (len : ∀ vs H Q E, sp vs H Q E → vs.length = ps.length)
    (hbody : ∀ (A : Around) (outer : List Env) (s : Shared) (H : Hp) (vs : List V) (Q : VK) (E : XK), Room k (A.deeper (envOfC qual scope s.heap.objs.size f cdv)) → sp vs H Q E →
      ∃ t, PSs (cxOf CX P w K mg base N qual scope f cdv A outer s H E) body t ∧ t { nx := fun _ H' => Q .non H', rt := Q } (start N vs) H) :
    FnOk P w K mg base CX (k + 1) f (PySem.W.fnOf name qual params body scope dV kV doc pm an cdv ct) ps sp := by
  refine ⟨len, fun A outer s H args us vs Q E hr e0 hb r hsp => ?_⟩
  have hl := len _ _ _ _ hsp
  have KX : K.In s.heap := e0.mod.kin.keeps fun b o e => (e0.bs b o e).1
  have lim : s.heap.NoLimit := e0.mod.nolimit.keeps fun b o e => (e0.bs b o e).1
  have hkind : ∀ y ∈ ps.zip us, scope.names.lookup y.1 = some .local ∨ (scope.names.lookup y.1 = some .cell ∧ ((cellsFrom (s.heap.objs.size + 1) scope.names []).lookup y.1).isSome = true) := fun ⟨n, v⟩ hy => by
    rcases S.par n (List.of_mem_zip hy).1 with q | q
    · exact .inl q
    · exact .inr ⟨q, PySem.W.cellsFrom_some _ _ _ (.inl q)⟩
  refine codeAny_call_function hr.depth (KX _ _ lk) rfl S.co S.gen rfl (PySem.W.codeRec_of KX hcd) (hb _ _ _ _ ?_)
  refine wpAny_newFunctionEnv_cells S.kind hkind fun env he s1 x => ?_
  subst he
  refine ⟨lim.keeps x.toInCall.keep, codeAny_func ?_⟩
  obtain ⟨t, ht, hq⟩ := hbody A outer s H vs Q E (hr.deeper _) hsp
  have I : Inv (cxOf CX P w K mg base N qual scope f cdv A outer s H E) [] (start N vs) H s1 := inv_start S hr.hd e0 hl r x
  refine wpAny_mono (ht [] s1 (start N vs) H _ I hq) (fun fl s' hs => ?_) fun e s' hs => hs
  have fin : ∀ {σ' : St} {H' : Hp} {v : V} {u : Value}, Inv (cxOf CX P w K mg base N qual scope f cdv A outer s H E) [] σ' H' s' → RelV v u → Q v H' → CE outer P w H s Q u s' :=
    fun {σ' H' v u} J rv q => ⟨v, H', J.os, J.bare, J.base, J.hok, rv, q⟩
  cases fl with
  | ret u =>
    obtain ⟨v, σ', H', J, rv, q⟩ := hs
    exact fin J rv q
  | next =>
    obtain ⟨σ', H', J, q⟩ := hs
    exact fin (v := V.non) (u := Value.none) J rfl q
  | brk =>
    obtain ⟨_, _, _, q⟩ := hs
    exact False.elim q
  | cont =>
    obtain ⟨_, _, _, q⟩ := hs
    exact False.elim q
end L2

namespace L2
open PySem PySem.Spec PyProof.Rows
section
variable {X : Cx} {x : Str} {p pos : Pos} {e : Expr} {es : List Expr} {t : TA} {id T : String} {r : List V → Hp → VK → Prop}

def tCB (r : List V → Hp → VK → Prop) (t : TA) : TE := fun σ H Q => t σ H fun vs H1 => r vs H1 Q

theorem pe_callB (hc : CallR X (.builtin id) r) (hg : Gl X x) (hm : X.mg x = none) (hv : bootBuiltins x = some (.builtin id)) (ha : PA X (e :: es) t) (hn : x ≠ "__name__" := by decide) (hdb : (x == ("__debug__" : Str)) = false := by decide)
    (he : starEach (e :: es) X.env = (false, eval e X.env) :: starEach es X.env := by rfl) (hpl : (backTo pos (starEach es X.env)).any (·.1) = false := by rfl) : PE X (.Call (.Name x p) (e :: es) [] pos) (tCB r t) := by
  intro pins s σ H Q I h
  refine wpAny_Call_Name_kw (ld_blt I hg hm hv ?_ hn hdb)
  exact PyProof.Rows.callWith_builtin1 (thn (ha pos pins s σ H _ I h) fun us s1 ⟨vs, H1, I1, r1, q1⟩ => hc pins s1 σ H1 vs us Q I1 r1 q1) he hpl

theorem pe_callTy (hc : CallR X (.type T) r) (hg : Gl X x) (hm : X.mg x = none) (hv : bootBuiltins x = some (.type T)) (ha : PA X (e :: es) t) (hn : x ≠ "__name__" := by decide) (hdb : (x == ("__debug__" : Str)) = false := by decide)
    (he : starEach (e :: es) X.env = (false, eval e X.env) :: starEach es X.env := by rfl) (hpl : (backTo pos (starEach es X.env)).any (·.1) = false := by rfl) : PE X (.Call (.Name x p) (e :: es) [] pos) (tCB r t) := by
  intro pins s σ H Q I h
  refine wpAny_Call_Name_kw (ld_blt I hg hm hv ?_ hn hdb)
  exact PyProof.Rows.callWith_type1 (thn (ha pos pins s σ H _ I h) fun us s1 ⟨vs, H1, I1, r1, q1⟩ => hc pins s1 σ H1 vs us Q I1 r1 q1) he hpl

end
end L2

namespace HT
open PySem PyProof.Rows


def lexLt : List Int → List Int → Bool
  | [], [] => false
  | [], _ :: _ => true
  | _ :: _, [] => false
  | x :: xs, y :: ys => if x = y then lexLt xs ys else decide (x < y)
section
open PySem.SeqAt
open PySem.AutoSeq1 (wpAny_loadPart')
open PySem.MeetsSeq PySem.MeetsSeq2 PySem.MeetsSeq3

end

section
variable {prog : Program} {w : World} {A : Around} {E : Value → Shared → Prop} {s : Shared}

def sIx (n d : Nat) : Option Int → Nat
  | none => d
  | some v => if v < 0 then (v + (n : Int)).toNat else min v.toNat n
theorem sIx_none (n d : Nat) : sIx n d none = d := rfl
theorem sIx_nat (n d k : Nat) : sIx n d (some (k : Int)) = min k n := by
  show (if (k : Int) < 0 then ((k : Int) + (n : Int)).toNat else min (k : Int).toNat n) = min k n
  rw [if_neg (by omega), Int.toNat_natCast]
end
end HT

namespace L2
open PySem PySem.Spec PyProof.Rows


abbrev TO := St → Hp → (Option Int → Hp → Prop) → Prop

def PO (X : Cx) (e : Option Expr) (t : TO) : Prop :=
  ∀ (pins : List (Addr × Obj)) (s : Shared) (σ : St) (H : Hp) (Q : Option Int → Hp → Prop), Inv X pins σ H s → t σ H Q →
    wpAny (model X.prog X.w) X.A (evalPart e X.env) (fun u s' => ∃ o H', Inv X pins σ H' s' ∧ IsPart u o ∧ Q o H') X.xe s
def tNoPart : TO := fun _ H Q => Q none H
def tPart (t : TE) : TO := fun σ H Q => t σ H fun x H1 => ∃ i, x = .int i ∧ Q (some i) H1

section
variable {X : Cx} {e : Expr} {te : TE} {lo hi : Option Expr} {tl th : TO} {pos p2 : Pos}

theorem po_none : PO X none tNoPart := by
  intro pins s σ H Q I h
  rw [evalPart_none]
  exact wpAny_pure ⟨none, H, I, .none, h⟩
theorem po_some (h : PE X e te) : PO X (some e) (tPart te) := by
  intro pins s σ H Q I hw
  rw [evalPart_some]
  refine thn (h pins s σ H _ I hw) fun u s1 ⟨x, H1, I1, r1, q1⟩ => ?_
  obtain ⟨i, rfl, q⟩ := q1
  obtain ⟨t, rfl⟩ := r1
  exact ⟨some i, H1, I1, .int i t, q⟩


def SlR (X : Cx) (r : V → Option Int → Option Int → Hp → VK → Prop) : Prop :=
  ∀ (pins : List (Addr × Obj)) (s : Shared) (σ : St) (H : Hp) (x : V) (v vl vu : Value) (lo hi : Option Int) (sl : Addr) (Q : VK), Inv X pins σ H s → RelV x v → s.heap.IsSliceOf sl vl vu .none → IsPart vl lo → IsPart vu hi → r x lo hi H Q →
    ∃ T id, typeLookup (.type T) "__getitem__" = pure (some (.builtin id)) ∧ s.TypeIs v T ∧ wpAny (model X.prog X.w) X.A (getItem v (.ref sl)) (EP X pins σ Q) X.xe s
def tSl (r : V → Option Int → Option Int → Hp → VK → Prop) (te : TE) (tl th : TO) : TE := fun σ H Q => te σ H fun x H1 => tl σ H1 fun l H2 => th σ H2 fun u H3 => r x l u H3 Q

theorem pe_slice {r : V → Option Int → Option Int → Hp → VK → Prop} (hr : SlR X r) (he : PE X e te) (hl : PO X lo tl) (hu : PO X hi th) : PE X (.Subscript e (.Slice lo hi none p2) pos) (tSl r te tl th) := by
  intro pins s σ H Q I h
  refine Subscript_ (thn (he pins s σ H _ I h) fun v s1 ⟨x, H1, I1, r1, q1⟩ => ?_)
  refine wpAny_Slice (thn (hl pins s1 σ H1 _ I1 q1) fun vl s2 ⟨l, H2, I2, pl, q2⟩ => thn (hu pins s2 σ H2 _ I2 q2) fun vu s3 ⟨u, H3, I3, pu, q3⟩ => ?_)
  rw [evalPart_none]
  refine wpAny_pure ?_
  have I4 : Inv X pins σ H3 { s3 with heap := s3.heap.push { cls := .type "slice", data := .fields #[vl, vu, .none] } } := I3.kept (t' := s3.toks) fun b ob q => Heap.get?_push_of_some _ q
  obtain ⟨T, id, hT, ht, hg⟩ := hr pins { s3 with heap := s3.heap.push { cls := .type "slice", data := .fields #[vl, vu, .none] } } σ H3 x v vl vu l u s3.heap.objs.size Q I4 r1 (Heap.IsSliceOf.new ..) pl pu q3
  show wpAny (model X.prog X.w) X.A (subscriptTail e (.Slice lo hi none p2) v (.ref s3.heap.objs.size)) (EP X pins σ Q) X.xe { s3 with heap := s3.heap.push { cls := .type "slice", data := .fields #[vl, vu, .none] } }
  exact tail_any (ops := [.ref s3.heap.objs.size, v]) ht hT hg (by with_unfolding_all rfl)


def cutV (xs : List V) (lo hi : Option Int) : List V := (xs.drop (HT.sIx xs.length 0 lo)).take (HT.sIx xs.length xs.length hi - HT.sIx xs.length 0 lo)
theorem cutV_length (xs : List V) (lo hi : Option Int) : (cutV xs lo hi).length ≤ xs.length := by
  unfold cutV
  rw [List.length_take, List.length_drop]
  omega

def rSlT (K : PySem.W.Frag) : V → Option Int → Option Int → Hp → VK → Prop := fun x lo hi H Q => ∃ a xs, x = .ref a ∧ SqT K H a xs ∧
  ¬ (HT.sIx xs.length 0 lo = 0 ∧ HT.sIx xs.length xs.length hi = xs.length) ∧ ∀ p, H p = none → Q (.ref p) (upd H p (.tup (cutV xs lo hi)))
def rLtT (K : PySem.W.Frag) : R2 := fun x y H Q => ∃ a b ns ms, x = .ref a ∧ y = .ref b ∧ SqT K H a (ns.map V.int) ∧ SqT K H b (ms.map V.int) ∧ Q (.bl (HT.lexLt ns ms)) H
def rCatT (K : PySem.W.Frag) : R2 := fun x y H Q => ∃ a b xs ys, x = .ref a ∧ y = .ref b ∧ SqT K H a xs ∧ SqT K H b ys ∧ xs ≠ [] ∧ xs.length + ys.length ≤ sizeLine ∧
  (ys = [] → Q (.ref a) H) ∧ (ys ≠ [] → ∀ p, H p = none → Q (.ref p) (upd H p (.tup (xs ++ ys))))
end
end L2

namespace L2
open PySem PySem.Spec PyProof.Rows



def ixN (n : Nat) (i : Int) : Option Nat := if 0 ≤ i then (if i < n then some i.toNat else none) else if -(n : Int) ≤ i then some (i + n).toNat else none
def atI {α : Type} (xs : List α) (i : Int) : Option α := (ixN xs.length i).bind fun j => xs[j]?
theorem ixN_seq {n : Nat} {i : Int} {j : Nat} (h : ixN n i = some j) : seqIndex? i n = some j ∧ j < n ∧ -(n : Int) ≤ i ∧ i < n := by
  unfold ixN at h
  by_cases h0 : 0 ≤ i
  · rw [if_pos h0] at h
    by_cases h1 : i < n
    · rw [if_pos h1] at h
      have e : i.toNat = j := Option.some.inj h
      exact ⟨by rw [seqIndex_of h0 h1, e], by omega, by omega, h1⟩
    · rw [if_neg h1] at h; cases h
  · rw [if_neg h0] at h
    by_cases h1 : -(n : Int) ≤ i
    · rw [if_pos h1] at h
      have e : (i + n).toNat = j := Option.some.inj h
      exact ⟨by rw [seqIndex_neg (by omega) h1, e], by omega, h1, by omega⟩
    · rw [if_neg h1] at h; cases h
theorem atI_get {α : Type} {xs : List α} {i : Int} {v : α} (h : atI xs i = some v) : ∃ j, seqIndex? i xs.length = some j ∧ xs[j]? = some v ∧ j < xs.length ∧ -(xs.length : Int) ≤ i ∧ i < xs.length := by
  unfold atI at h
  cases e : ixN xs.length i with
  | none => rw [e] at h; cases h
  | some j =>
    rw [e] at h
    obtain ⟨h1, h2, h3, h4⟩ := ixN_seq e
    exact ⟨j, h1, h, h2, h3, h4⟩
theorem atI_nat {α : Type} {xs : List α} {j : Nat} {v : α} (h : xs[j]? = some v) : atI xs (j : Int) = some v := by
  have hj : j < xs.length := (List.getElem?_eq_some_iff.mp h).1
  have e : ixN xs.length (j : Int) = some j := by
    unfold ixN
    rw [if_pos (by omega), if_pos (by omega)]; simp
  unfold atI; rw [e]; exact h
def PlainIx (b : Expr) : Prop := ∀ o i, subscripted b false o i = operate [o, i] (getItem o i)

def IxR (X : Cx) (r : R2) : Prop :=
  ∀ (value slice : Expr) (pins : List (Addr × Obj)) (s : Shared) (σ : St) (H : Hp) (x y : V) (v u : Value) (Q : VK), Inv X pins σ H s → RelV x v → RelV y u → r x y H Q →
    subscripted slice false v u = operate [v, u] (getItem v u) → wpAny (model X.prog X.w) X.A (subscriptTail value slice v u) (EP X pins σ Q) X.xe s

def MtR (X : Cx) (id : String) (r : V → List V → Hp → VK → Prop) : Prop :=
  ∀ (pins : List (Addr × Obj)) (s : Shared) (σ : St) (H : Hp) (x : V) (xs : List V) (v : Value) (us : List Value) (Q : VK), Inv X pins σ H s → RelV x v → Vals xs us → r x xs H Q →
    wpAny (model X.prog X.w) X.A (call (.builtin id) (v :: us)) (EP X pins σ Q) X.xe s
section
variable {X : Cx} {a b : Expr} {ta tb : TE} {pos : Pos}
theorem pe_ix {r : R2} (hr : IxR X r) (ha : PE X a ta) (hb : PE X b tb) (hs : PlainIx b) : PE X (.Subscript a b pos) (tOp r ta tb) := by
  intro pins s σ H Q I h
  exact Subscript_ (binT ha hb I h fun v u s2 x y H2 I2 rx ry q => hr a b pins s2 σ H2 x y v u Q I2 rx ry q (hs _ _))

def rIxL (K : PySem.W.Frag) : R2 := fun x y H Q => ∃ p xs i v, x = .ref p ∧ y = .int i ∧ SqL K H p xs ∧ atI xs i = some v ∧ Q v H
def rIxT (K : PySem.W.Frag) : R2 := fun x y H Q => ∃ p xs i v, x = .ref p ∧ y = .int i ∧ SqT K H p xs ∧ atI xs i = some v ∧ Q v H
def rIxS : R2 := fun x y H Q => ∃ z i c, x = .str z ∧ y = .int i ∧ z.length ≤ sizeLine ∧ atI z.cps.toList i = some c ∧ Q (.str ⟨#[c]⟩) H
theorem ix_list : IxR X (rIxL X.K) := by
  intro value slice pins s σ H x y v u Q I rx ry h hs
  obtain ⟨p, xs, i, z, rfl, rfl, hq, he, q⟩ := h
  cases rx
  obtain ⟨t, rfl⟩ := ry
  obtain ⟨its, r, pl, hz⟩ := I.list hq
  obtain ⟨j, h1, h2, h3, h4, h5⟩ := atI_get he
  obtain ⟨w, ew, rw'⟩ := r.get h2
  have hl := r.length
  have hn := line63
  have fin : EP X pins σ Q w s := ⟨z, H, I, rw', q⟩
  by_cases h0 : 0 ≤ i
  · have hj : i.toNat = j := by
      rw [seqIndex_of h0 h5] at h1
      exact Option.some.inj h1
    exact item_listR pl.isList h0 (by omega) (by rw [hj]; simpa using ew) fin hs
  · have hj : (i + (its.toArray.size : Int)).toNat = j := by
      rw [seqIndex_neg (by omega) h4] at h1
      rw [List.size_toArray, ← hl]
      exact Option.some.inj h1
    exact subscriptTail_builtinR (x := w) pl.isList.typeIs slot_list_getitem.lookup
      (wpAny_getItem_list_neg (Q := fun r s' => r = w ∧ EP X pins σ Q r s') pl.isList (by omega) (by rw [List.size_toArray] <;> omega) (by omega) (by rw [hj]; simpa using ew) ⟨rfl, fin⟩) hs
theorem ix_tup : IxR X (rIxT X.K) := by
  intro value slice pins s σ H x y v u Q I rx ry h hs
  obtain ⟨p, xs, i, z, rfl, rfl, hq, he, q⟩ := h
  cases rx
  obtain ⟨t, rfl⟩ := ry
  obtain ⟨its, r, pl, hz⟩ := I.tuple hq
  obtain ⟨j, h1, h2, h3, h4, h5⟩ := atI_get he
  obtain ⟨w, ew, rw'⟩ := r.get h2
  have hl := r.length
  have hn := line63
  have fin : EP X pins σ Q w s := ⟨z, H, I, rw', q⟩
  exact subscriptTail_builtinR (x := w) pl.typeIs slot_tuple_getitem.lookup
    (getItem_tuple (j := j) (Q := fun r s' => r = w ∧ EP X pins σ Q r s') pl (by omega) (by omega) (by rw [List.size_toArray, ← hl]; exact h1) (by simpa using ew) ⟨rfl, fin⟩) hs
def rIx (K : PySem.W.Frag) : R2 := fun x y H Q => rIxL K x y H Q ∨ rIxT K x y H Q ∨ rIxS x y H Q
theorem mapSeq_set (its : List Value) (n j : Nat) (u : Value) : Obj.mapSeq (·.setIfInBounds j u) { cls := .type "list", data := .seq its.toArray n } = { cls := .type "list", data := .seq (its.set j u).toArray n } := by
  simp [Obj.mapSeq]
theorem Inv.lst {pins : List (Addr × Obj)} {σ : St} {H : Hp} {s : Shared} {p : Addr} {xs : List V} (I : Inv X pins σ H s) (h : H p = some (.lst xs)) :
    ∃ (its : List Value) (n : Nat), Vals xs its ∧ s.heap.get? p = some { cls := .type "list", data := .seq its.toArray n } ∧ xs.length ≤ sizeLine := by
  obtain ⟨z, its, n, r, e⟩ := I.hok p _ h
  exact ⟨its, n, r, e, z⟩

theorem Inv.lstUpd {pins : List (Addr × Obj)} {σ : St} {H : Hp} {s : Shared} {p : Addr} {xs ys : List V} {its its' : List Value} {n n' : Nat} {f : Obj → Obj} (I : Inv X pins σ H s) (h : H p = some (.lst xs))
    (ho : s.heap.get? p = some { cls := .type "list", data := .seq its.toArray n }) (hf : f { cls := .type "list", data := .seq its.toArray n } = { cls := .type "list", data := .seq its'.toArray n' }) (r : Vals ys its') (hz : ys.length ≤ sizeLine) (t : Nat) :
    Inv X pins σ (upd H p (.lst ys)) { s with heap := s.heap.update p f, toks := t } := by
  have e : (s.heap.update p f).get? p = some { cls := .type "list", data := .seq its'.toArray n' } := by
    rw [Heap.get?_update_self f ho (by rw [hf] <;> rfl), hf]
  refine I.write (x := p) (e := p) (by rw [h]; trivial) (.inl rfl) (fun b u hb q => (Heap.get?_update_other _ _ (Ne.symm hb)).trans q) ⟨_, e⟩ ?_
  exact ⟨hz, its', n', r, e⟩
def rSetL : V → V → V → Hp → (Hp → Prop) → Prop := fun o i v H Q => ∃ p xs k j, o = .ref p ∧ i = .int k ∧ H p = some (.lst xs) ∧ ixN xs.length k = some j ∧ Q (upd H p (.lst (xs.set j v)))
theorem set_list : PSet X rSetL := by
  intro pins s σ H o i v ov iv u Q I ro ri rv h
  obtain ⟨p, xs, k, j, rfl, rfl, hp, hj, q⟩ := h
  cases ro
  obtain ⟨t, rfl⟩ := ri
  obtain ⟨its, n, r, ho, hz⟩ := I.lst hp
  obtain ⟨h1, h2, h3, h4⟩ := ixN_seq hj
  have hl := r.length
  have hn := line63
  have I' : Inv X pins σ (upd H p (.lst (xs.set j v))) { s with heap := s.heap.update p (Obj.mapSeq (·.setIfInBounds j u)) } :=
    I.lstUpd hp ho (mapSeq_set its n j u) (r.set rv j) (by rw [List.length_set]; exact hz) s.toks
  by_cases h0 : 0 ≤ k
  · have hk : k.toNat = j := by
      rw [seqIndex_of h0 h4] at h1
      exact Option.some.inj h1
    exact PySem.W.ki_setAt ho h0 (by omega) (by rw [List.size_toArray, ← hl]; exact h4) (by rw [hk]; exact ⟨_, I', q⟩)
  · have hk : (k + (its.toArray.size : Int)).toNat = j := by
      rw [seqIndex_neg (by omega) h3] at h1
      rw [List.size_toArray, ← hl]
      exact Option.some.inj h1
    exact PySem.W.ki_setBack ho (by omega) (by rw [List.size_toArray, ← hl]; exact h3) (by omega) (by rw [hk]; exact ⟨_, I', q⟩)


theorem slice_bounds (lo hi : Option Int) (n : Nat) : (sliceBounds lo hi none n).1 = ((HT.sIx n 0 lo : Nat) : Int) ∧ (sliceBounds lo hi none n).2.1 = ((HT.sIx n n hi : Nat) : Int) ∧ (sliceBounds lo hi none n).2.2 = 1 := by
  refine ⟨?_, ?_, rfl⟩
  · cases lo with
    | none => simp [sliceBounds, HT.sIx]
    | some i =>
      simp only [sliceBounds, HT.sIx, Option.getD_none, show (1 : Int) > 0 by decide, if_true]
      by_cases h : i < 0
      · simp only [h, if_true] <;> omega
      · simp only [h, if_false] <;> omega
  · cases hi with
    | none => simp [sliceBounds, HT.sIx]
    | some i =>
      simp only [sliceBounds, HT.sIx, Option.getD_none, show (1 : Int) > 0 by decide, if_true]
      by_cases h : i < 0
      · simp only [h, if_true] <;> omega
      · simp only [h, if_false] <;> omega
theorem slicePick_cut (its : List Value) (lo hi : Option Int) : slicePick its.toArray lo hi none = ((its.drop (HT.sIx its.length 0 lo)).take (HT.sIx its.length its.length hi - HT.sIx its.length 0 lo)).toArray := by
  obtain ⟨h1, h2, h3⟩ := slice_bounds lo hi its.toArray.size
  unfold slicePick
  rw [h1, h2, h3]
  simp only [sliceRange_one, pick_run, List.size_toArray] <;> rfl

def rSlL (K : PySem.W.Frag) : V → Option Int → Option Int → Hp → VK → Prop := fun x lo hi H Q => ∃ a xs, x = .ref a ∧ SqL K H a xs ∧ ∀ p, H p = none → Q (.ref p) (upd H p (.lst (cutV xs lo hi)))
theorem sl_list : SlR X (rSlL X.K) := by
  intro pins s σ H x v vl vu lo hi sl Q I rx hs pl pu h
  obtain ⟨a, xs, rfl, hx, q⟩ := h
  cases rx
  obtain ⟨its, r, ht, hz⟩ := I.list hx
  have hlen := r.length
  refine ⟨"list", _, slot_list_getitem.lookup, ht.isList.typeIs, ?_⟩
  refine wpAny_getItem_list_slice ht.isList hs pl pu .none (by simp) ?_ (by rw [List.size_toArray] <;> omega)
  rw [slicePick_cut, ← hlen]
  refine ⟨.ref s.heap.objs.size, _, I.laid (t' := s.toks) (o := .lst (cutV xs lo hi)) (fun b ob q => Heap.get?_push_of_some _ q) (Nat.le_refl _) ?_, rfl, q _ (I.hok.fresh (Nat.le_refl _))⟩
  exact ⟨Nat.le_trans (cutV_length xs lo hi) hz, _, 0, (r.drop (HT.sIx xs.length 0 lo)).take (HT.sIx xs.length xs.length hi - HT.sIx xs.length 0 lo), Heap.get?_push_size _ rfl⟩


def flatV : V → Bool
  | .non => true
  | .bl _ => true
  | .int _ => true
  | .str _ => true
  | _ => false

def eqV : V → V → Bool
  | .non, .non => true
  | .bl a, .bl b => a == b
  | .bl a, .int b => (if a then 1 else 0) == b
  | .int a, .bl b => a == (if b then 1 else 0)
  | .int a, .int b => a == b
  | .str a, .str b => a == b
  | _, _ => false
def eqU (x : V) (u : Value) : Bool := match u with
  | .none => eqV .non x
  | .bool b => eqV (.bl b) x
  | .int i _ => eqV (.int i) x
  | .str z _ => eqV (.str z) x
  | _ => false
def inV (x : V) (xs : List V) : Bool := xs.any fun y => eqV y x

def rIn (K : PySem.W.Frag) (neg : Bool) : R2 := fun x y H Q => ∃ p xs, y = .ref p ∧ (SqL K H p xs ∨ SqT K H p xs) ∧ flatV x = true ∧ xs.all flatV = true ∧ Q (.bl (if neg then !inV x xs else inV x xs)) H
theorem call_len_seq : CallR X (.builtin "len") (fun xs H Q => ∃ p ys, xs = [.ref p] ∧ (SqL X.K H p ys ∨ SqT X.K H p ys) ∧ Q (.int ys.length) H) := by
  intro pins s σ H xs us Q I r h
  obtain ⟨p, ys, rfl, hq, q⟩ := h
  obtain ⟨u, rfl, rx⟩ := vals1 r
  cases rx
  have hn := line63
  rcases hq with hq | hq
  · obtain ⟨its, r', pl, hz⟩ := I.list hq
    have hlen := r'.length
    exact Calls.call_len_list pl.isList (by simp only [List.size_toArray] <;> omega) ⟨.int ys.length, H, I.tok _, ⟨s.toks + 1, by rw [List.size_toArray, hlen]⟩, q⟩
  · obtain ⟨its, r', pl, hz⟩ := I.tuple hq
    have hlen := r'.length
    exact len_tuple pl (by simp only [List.size_toArray] <;> omega) ⟨.int ys.length, H, I.tok _, ⟨s.toks + 1, by rw [List.size_toArray, hlen]⟩, q⟩
theorem call_list_of : CallR X (.type "list") (fun xs H Q => ∃ p ys, xs = [.ref p] ∧ (SqL X.K H p ys ∨ SqT X.K H p ys) ∧ ∀ l, H l = none → Q (.ref l) (upd H l (.lst ys))) := by
  intro pins s σ H xs us Q I r h
  obtain ⟨p, ys, rfl, hq, q⟩ := h
  obtain ⟨u, rfl, rx⟩ := vals1 r
  cases rx
  have fin : ∀ (its : List Value), Vals ys its → ys.length ≤ sizeLine → ∀ (h' : Heap) (c' : Nat), (∀ b o', s.heap.get? b = some o' → h'.get? b = some o') →
      h'.get? s.heap.objs.size = some { cls := .type "list", dict := none, data := .seq its.toArray c', slots := #[] } → EP X pins σ Q (.ref s.heap.objs.size) { s with heap := h' } := fun its r' hz h' c' kp e =>
    ⟨.ref s.heap.objs.size, _, I.laid (t' := s.toks) kp (Nat.le_refl _) (show ObjOk X.prog X.w _ h' _ (.lst ys) from ⟨hz, its, c', r', e⟩), rfl, q _ (I.hok.fresh (Nat.le_refl _))⟩
  rcases hq with hq | hq
  · obtain ⟨its, r', pl, hz⟩ := I.list hq
    have hlen := r'.length
    obtain ⟨o, ho, hc, n, hd⟩ := pl.isList
    exact call_list_seq p (.inl rfl) ho hc hd (fun h' c' kp e => fin its r' hz h' c' kp e) (by simp only [List.size_toArray] <;> omega)
  · obtain ⟨its, r', pl, hz⟩ := I.tuple hq
    have hlen := r'.length
    obtain ⟨o, ho, hc, n, hd⟩ := pl
    exact call_list_seq p (.inr rfl) ho hc hd (fun h' c' kp e => fin its r' hz h' c' kp e) (by simp only [List.size_toArray] <;> omega)
def tyV (K : PySem.W.Frag) (T : String) (x : V) (H : Hp) : Prop := match x with
  | .str _ => T = "str"
  | .int _ => T = "int"
  | .ref p => (T = "list" ∧ ∃ xs, SqL K H p xs) ∨ (T = "tuple" ∧ ∃ o, K.lookup p = some o ∧ o.cls = .type "tuple" ∧ o.dict = none) ∨
      (T = "dict" ∧ ((∃ kvs, H p = some (.dK kvs)) ∨ ∃ kvs, H p = some (.dT kvs))) ∨ (T = "set" ∧ ∃ S n, H p = some (.set S n))
  | _ => False
theorem tyV_is {pins : List (Addr × Obj)} {σ : St} {H : Hp} {s : Shared} {T : String} {x : V} {v : Value} (I : Inv X pins σ H s) (r : RelV x v) (ty : tyV X.K T x H) :
    s.TypeIs v T ∧ ∀ a, v = .ref a → ∃ ob, s.heap.get? a = some ob ∧ ob.dict = none := by
  cases x with
  | str z =>
    obtain ⟨t, rfl⟩ := r
    cases (show T = "str" from ty)
    exact ⟨typeIs_str s z t, fun _ e => nomatch e⟩
  | int i =>
    obtain ⟨t, rfl⟩ := r
    cases (show T = "int" from ty)
    exact ⟨typeIs_int s i t, fun _ e => nomatch e⟩
  | ref p =>
    cases r
    rcases ty with ⟨rfl, xs, hq⟩ | ⟨rfl, o, hk, hc, hd⟩ | ⟨rfl, hk⟩ | ⟨rfl, S, n, hk⟩
    · obtain ⟨its, _, pl, _⟩ := I.list hq
      refine ⟨pl.isList.typeIs, fun a e => ?_⟩
      cases e
      obtain ⟨o, n, e, c, hd, _⟩ := pl
      exact ⟨o, e, hd⟩
    · refine ⟨⟨o, I.kIn p o hk, hc⟩, fun a e => ?_⟩
      cases e
      exact ⟨o, I.kIn _ o hk, hd⟩
    · have z : ∃ o, s.heap.get? p = some o ∧ o.ExactDict := by
        rcases hk with ⟨kvs, hk⟩ | ⟨kvs, hk⟩
        · obtain ⟨_, _, _, _, o, _, _, e, ex, _⟩ := I.hok p _ hk
          exact ⟨o, e, ex⟩
        · obtain ⟨_, _, _, _, o, _, _, e, ex, _⟩ := I.hok p _ hk
          exact ⟨o, e, ex⟩
      obtain ⟨o, e, ex⟩ := z
      refine ⟨⟨o, e, ex.1⟩, fun a e2 => ?_⟩
      cases e2
      exact ⟨o, e, ex.2.1⟩
    · obtain ⟨o, _, _, _, e, ex, _⟩ := I.hok p _ hk
      refine ⟨⟨o, e, ex.1⟩, fun a e2 => ?_⟩
      cases e2
      exact ⟨o, e, ex.2.1⟩
  | _ => exact False.elim ty
def tBM0 (K : PySem.W.Frag) (T : String) (r : V → List V → Hp → VK → Prop) (to : TE) : TE := fun σ H Q => to σ H fun x H1 => tyV K T x H1 ∧ r x [] H1 Q
def tBM (K : PySem.W.Frag) (T : String) (r : V → List V → Hp → VK → Prop) (to : TE) (t : TA) : TE := fun σ H Q => to σ H fun x H1 => tyV K T x H1 ∧ t σ H1 fun xs H2 => r x xs H2 Q
variable {o e : Expr} {es : List Expr} {to : TE} {t : TA} {name : Str} {apos cpos : Pos} {T id : String} {r : V → List V → Hp → VK → Prop}
theorem pe_bm0 (pa : PlainAttrs T) (slot : Slot T name id) (hty : typeOf (.builtin id) = pure (.type "method_descriptor")) (hm : MtR X id r) (ho : PE X o to)
    (hbase : attributeBase o name X.env (eval o X.env) = eval o X.env := by rfl) (hline : (apos.endLine == cpos.line) = true := by rfl) : PE X (.Call (.Attribute o name apos) [] [] cpos) (tBM0 X.K T r to) := by
  intro pins s σ H Q I h
  refine wpAny_Call_method0_late hbase hline (thn (ho pins s σ H _ I h) fun v s1 ⟨x, H1, I1, r1, ty, q1⟩ => ?_)
  obtain ⟨h1, h2⟩ := tyV_is I1 r1 ty
  exact ⟨T, id, pa, slot, hty, h1, h2, Calls.callWith_builtin rfl (PySem.evalArgs_none (hm pins s1 σ H1 x [] v [] Q I1 r1 .nil q1))⟩
theorem pe_bm (pa : PlainAttrs T) (slot : Slot T name id) (hty : typeOf (.builtin id) = pure (.type "method_descriptor")) (hm : MtR X id r) (ho : PE X o to) (ha : PA X (e :: es) t)
    (hbase : attributeBase o name X.env (eval o X.env) = eval o X.env := by rfl)
    (hfew : ((backTo cpos (starEach (e :: es) X.env)).all (fun x => !x.1) && (backToKw cpos (keywordEach [] X.env)).all (fun x => x.1.isSome)
      && decide ((e :: es).length + ([] : List Keyword).length + (if ([] : List Keyword).isEmpty then 0 else 1) < 30)) = true := by rfl)
    (hline : (apos.endLine == cpos.line) = true := by rfl) (hs : starEach (e :: es) X.env = (false, eval e X.env) :: starEach es X.env := by rfl) (hplain : (backTo cpos (starEach es X.env)).any (·.1) = false := by rfl) :
    PE X (.Call (.Attribute o name apos) (e :: es) [] cpos) (tBM X.K T r to t) := by
  intro pins s σ H Q I h
  refine wpAny_Call_method_late hbase hfew hline rfl (thn (ho pins s σ H _ I h) fun v s1 ⟨x, H1, I1, r1, ty, q1⟩ => ?_)
  obtain ⟨h1, h2⟩ := tyV_is I1 r1 ty
  refine ⟨T, id, pa, slot, hty, h1, h2, ?_⟩
  have hA := ha cpos pins s1 σ H1 _ I1 q1
  rw [hs] at hA ⊢
  refine Calls.callWith_builtin (by show (false || (backTo cpos (starEach es X.env)).any (·.1)) = false; rw [hplain] <;> rfl) (Calls.evalArgs_plain ?_)
  exact thn hA fun us s2 ⟨vs, H2, I2, r2, q2⟩ => hm pins s2 σ H2 x vs v us Q I2 r1 r2 q2

end
end L2

namespace L2
open PySem PySem.Spec PyProof.Rows

def MtM (X : Cx) (id : String) (r : V → List V → Hp → VK → Prop) : Prop :=
  ∀ (pins : List (Addr × Obj)) (s : Shared) (σ : St) (H : Hp) (x : V) (xs : List V) (v : Value) (us : List Value) (Q : VK), Inv X pins σ H s → RelV x v → Vals xs us → r x xs H Q →
    wpAny (model X.prog X.w) X.A (call (.builtin id) (v :: us)) (EP X pins σ Q) X.xe s


theorem Vals.one : ∀ {x : V} {us : List Value}, Vals [x] us → ∃ u, us = [u] ∧ RelV x u
  | _, _, .cons r .nil => ⟨_, rfl, r⟩
theorem Vals.zero : ∀ {us : List Value}, Vals [] us → us = []
  | _, .nil => rfl
theorem Vals.dropLast {xs : List V} {us : List Value} (h : Vals xs us) : Vals xs.dropLast us.dropLast := by
  induction h with
  | nil => exact .nil
  | cons r t ih =>
    cases t with
    | nil => exact .nil
    | cons q t' => exact .cons r ih
theorem Vals.eraseIdx : ∀ {xs : List V} {us : List Value} (i : Nat), Vals xs us → Vals (xs.eraseIdx i) (us.eraseIdx i)
  | _, _, _, .nil => .nil
  | _, _, 0, .cons _ t => t
  | _, _, i + 1, .cons r t => .cons r (Vals.eraseIdx i t)
theorem Vals.reverse {xs : List V} {us : List Value} (h : Vals xs us) : Vals xs.reverse us.reverse := by
  induction h with
  | nil => exact .nil
  | cons r t ih => rw [List.reverse_cons, List.reverse_cons]; exact Vals.append ih (.cons r .nil)
theorem Vals.rep {xs : List V} {us : List Value} (h : Vals xs us) : ∀ k : Nat, Vals (List.replicate k xs).flatten (List.replicate k us).flatten
  | 0 => .nil
  | k + 1 => by
    rw [List.replicate_succ, List.replicate_succ, List.flatten_cons, List.flatten_cons]
    exact Vals.append h (Vals.rep h k)
theorem erase_last {α : Type} (l : List α) : l.eraseIdx (l.length - 1) = l.dropLast := by
  induction l with
  | nil => rfl
  | cons a r ih =>
    cases r with
    | nil => rfl
    | cons b r =>
      have e : (a :: b :: r).length - 1 = ((b :: r).length - 1) + 1 := by
        have h1 : (a :: b :: r).length = r.length + 2 := rfl
        have h2 : (b :: r).length = r.length + 1 := rfl
        omega
      rw [e, List.eraseIdx_cons_succ, ih]
      all_goals rfl
theorem foldl_rep (its : List Value) : ∀ (k : Nat) (acc : List Value),
    List.foldl (fun x1 x2 => x1 ++ x2) acc.toArray (List.replicate k its.toArray) = (acc ++ (List.replicate k its).flatten).toArray
  | 0, acc => by simp
  | k + 1, acc => by
    have e : acc.toArray ++ its.toArray = (acc ++ its).toArray := by simp
    have e2 : (acc ++ its) ++ (List.replicate k its).flatten = acc ++ (List.replicate (k + 1) its).flatten := by
      rw [List.replicate_succ, List.flatten_cons, List.append_assoc]
    rw [← e2, ← foldl_rep its k (acc ++ its), ← e, List.replicate_succ, List.foldl_cons]

section
variable {X : Cx} {pins : List (Addr × Obj)} {σ : St} {H : Hp} {s : Shared} {l b : Addr} {xs ys zs : List V}


theorem Inv.lset {its its' : List Value} {n : Nat} {f : Array Value → Array Value} {t' : Nat} (I : Inv X pins σ H s) (hH : H l = some (.lst xs))
    (e : s.heap.get? l = some { cls := .type "list", data := .seq its.toArray n }) (hf : f its.toArray = its'.toArray) (hv : Vals ys its') (hz : ys.length ≤ sizeLine) :
    Inv X pins σ (upd H l (.lst ys)) { s with heap := s.heap.update l (Obj.mapSeq f), toks := t' } := by
  have q := PySem.IsL.update e f
  rw [hf] at q
  refine I.write (x := l) (e := l) (by rw [hH]; exact trivial) (.inl rfl) (fun b' u hb hu => (Heap.get?_update_other s.heap (Obj.mapSeq f) (Ne.symm hb)).trans hu) ⟨_, q⟩ ?_
  exact ⟨hz, its', _, hv, q⟩
theorem Inv.lnew {its : List Value} {t' : Nat} (I : Inv X pins σ H s) (hv : Vals ys its) (hz : ys.length ≤ sizeLine) :
    Inv X pins σ (upd H s.heap.objs.size (.lst ys)) { s with heap := s.heap.push { cls := .type "list", data := .seq its.toArray }, toks := t' } :=
  I.laid (fun _ _ q => Heap.get?_push_of_some _ q) (Nat.le_refl _) ⟨hz, its, 0, hv, Heap.get?_push_size _ rfl⟩
theorem Inv.fresh (I : Inv X pins σ H s) : H s.heap.objs.size = none := I.hok.fresh (Nat.le_refl _)
theorem Inv.lstM (I : Inv X pins σ H s) (hH : H l = some (.lst xs)) : xs.length ≤ sizeLine ∧ ∃ (its : List Value) (n : Nat), Vals xs its ∧ xs.length = its.length ∧ s.heap.get? l = some { cls := .type "list", data := .seq its.toArray n } := by
  obtain ⟨z, its, n, r, e⟩ := I.hok l _ hH
  exact ⟨z, its, n, r, r.length, e⟩

theorem notLongL {n : Nat} (h : n ≤ sizeLine) : Builtin.List.listTooLong n = false := by
  unfold Builtin.List.listTooLong
  exact decide_eq_false (by omega)
end

section
variable {X : Cx}


def rAppend : V → List V → Hp → VK → Prop := fun x vs H Q => ∃ l xs y, x = .ref l ∧ vs = [y] ∧ H l = some (.lst xs) ∧ xs.length < sizeLine ∧ Q .non (upd H l (.lst (xs ++ [y])))
theorem mt_append : MtM X "list.append" rAppend := by
  intro pins s σ H x vs v us Q I rx rv h
  obtain ⟨l, xs, y, rfl, rfl, hH, hz, q⟩ := h
  cases rx
  obtain ⟨u, rfl, ru⟩ := rv.one
  obtain ⟨z, its, n, r, hl, e⟩ := I.lstM hH
  refine call_meets F.slot_list_append ⟨_, e, rfl⟩ F.entry_list_append (F.args_list_append_2 _ _) (PySem.list_append l its.toArray n u (by rw [List.size_toArray]; omega)) ⟨e, ?_⟩
  refine ⟨.non, _, I.lset (its' := its ++ [u]) hH e (by simp) (r.append (.cons ru .nil)) ?_, rfl, q⟩
  rw [List.length_append, List.length_singleton]
  omega

def rExtend : V → List V → Hp → VK → Prop := fun x vs H Q => ∃ l b xs zs, x = .ref l ∧ vs = [.ref b] ∧ H l = some (.lst xs) ∧ H b = some (.lst zs) ∧ xs.length + zs.length ≤ sizeLine ∧ Q .non (upd H l (.lst (xs ++ zs)))
def rPop : V → List V → Hp → VK → Prop := fun x vs H Q => ∃ l xs y, x = .ref l ∧ vs = [] ∧ H l = some (.lst xs) ∧ xs[xs.length - 1]? = some y ∧ Q y (upd H l (.lst xs.dropLast))
theorem mt_pop : MtM X "list.pop" rPop := by
  intro pins s σ H x vs v us Q I rx rv h
  obtain ⟨l, xs, y, rfl, rfl, hH, hy, q⟩ := h
  cases rx
  have hus := rv.zero
  subst hus
  obtain ⟨z, its, n, r, hl, e⟩ := I.lstM hH
  obtain ⟨u, hu, ru⟩ := r.get hy
  have hy' : its.toArray[its.toArray.size - 1]? = some u := by
    show its.toArray[its.length - 1]? = some u
    rw [← Array.getElem?_toList, ← hl]
    exact hu
  refine call_meets F.slot_list_pop ⟨_, e, rfl⟩ F.entry_list_pop (F.args_list_pop_1 _) (MeetsSeq.list_pop_last l its.toArray n u hy' (by rw [List.size_toArray]; omega)) ⟨e, ?_⟩
  refine ⟨y, _, I.lset (its' := its.dropLast) hH e ?_ r.dropLast ?_, ru, q⟩
  · show its.toArray.eraseIdxIfInBounds (its.toArray.size - 1) = its.dropLast.toArray
    rw [List.size_toArray, List.eraseIdxIfInBounds_toArray, erase_last]
  · rw [List.length_dropLast]
    omega

def rPopAt : V → List V → Hp → VK → Prop := fun x vs H Q => ∃ l xs i k y, x = .ref l ∧ vs = [.int i] ∧ H l = some (.lst xs) ∧ -(2 ^ 63) ≤ i ∧ i < 2 ^ 63 ∧ seqIndex? i xs.length = some k ∧ xs[k]? = some y ∧ Q y (upd H l (.lst (xs.eraseIdx k)))
def rReverse : V → List V → Hp → VK → Prop := fun x vs H Q => ∃ l xs, x = .ref l ∧ vs = [] ∧ H l = some (.lst xs) ∧ Q .non (upd H l (.lst xs.reverse))
def rClear : V → List V → Hp → VK → Prop := fun x vs H Q => ∃ l xs, x = .ref l ∧ vs = [] ∧ H l = some (.lst xs) ∧ Q .non (upd H l (.lst []))
def rCat : R2 := fun x y H Q => ∃ l b xs zs, x = .ref l ∧ y = .ref b ∧ H l = some (.lst xs) ∧ H b = some (.lst zs) ∧ xs.length + zs.length ≤ sizeLine ∧ ∀ p, H p = none → Q (.ref p) (upd H p (.lst (xs ++ zs)))
def rRep : R2 := fun x y H Q => ∃ l k xs, x = .ref l ∧ y = .int k ∧ H l = some (.lst xs) ∧ -(2 ^ 63) ≤ k ∧ k < 2 ^ 63 ∧ xs.length * k.toNat ≤ sizeLine ∧
  ∀ p, H p = none → Q (.ref p) (upd H p (.lst (List.replicate k.toNat xs).flatten))
theorem len_rep {α : Type} (xs : List α) (k : Nat) : (List.replicate k xs).flatten.length = k * xs.length := by
  induction k with
  | zero => simp
  | succ k ih => rw [List.replicate_succ, List.flatten_cons, List.length_append, ih, Nat.succ_mul, Nat.add_comm]
theorem op_rep : OpR X (binaryOp .Mult) rRep := by
  intro pins s σ H x y v u Q I rx ry h
  obtain ⟨l, k, xs, rfl, rfl, hH, h1, h2, hz, q⟩ := h
  cases rx
  obtain ⟨t, rfl⟩ := ry
  obtain ⟨z, its, n, r, hl, e⟩ := I.lstM hH
  have hlen : its.toArray.size * k.toNat ≤ sizeLine := by rw [List.size_toArray, ← hl]; exact hz
  have hcap : ¬ its.toArray.size * k.toNat > (2 ^ 63 - 1) / 8 := by
    have : (sizeLine : Nat) ≤ (2 ^ 63 - 1) / 8 := by decide
    omega
  have hfit : ¬ (!Builtin.List.listFitsIndex k) = true := by
    rw [fitsIndex_both h1 h2]
    exact Bool.false_ne_true
  have hlong : ¬ Builtin.List.listTooLong (its.toArray.size * k.toNat) = true := by
    rw [notLongL hlen]
    exact Bool.false_ne_true
  have hnew : List.foldl (fun x1 x2 => x1 ++ x2) #[] (List.replicate (if its.toArray.isEmpty = true then 0 else k.toNat) its.toArray) = (List.replicate k.toNat its).flatten.toArray := by
    have f0 : ∀ m : Nat, List.foldl (fun x1 x2 => x1 ++ x2) #[] (List.replicate m its.toArray) = (List.replicate m its).flatten.toArray := fun m => by
      have := foldl_rep its m []
      rw [List.nil_append] at this
      exact this
    rw [f0]
    cases its with
    | nil => simp
    | cons a r' => rw [if_neg (by simp)]
  refine wpAny_binaryOp_repeat_ref (T := "list") (U := "int") (by decide) ⟨_, e, rfl⟩ (fun s' => typeIs_int s' k t) noFill_list_mul F.fills_int_mul F.slot_int_rmul repeat_list F.slot_int_index.lookup
    (call_meets F.slot_int_rmul (typeIs_int s k t) F.entry_int_rmul (F.args_int_rmul_2 _ _) (int___rmul___int_list k t l its.toArray n)
      ⟨e, rfl, ⟨_, e, rfl⟩, call_meets F.slot_list_mul ⟨_, e, rfl⟩ F.entry_list_mul (F.args_list_mul_2 _ _) (AutoListH.list___mul___list_int_3 l its.toArray n k t hfit hcap hlong) ⟨e, ?_⟩⟩)
  rw [hnew]
  exact ⟨.ref _, _, I.lnew (t' := s.toks) (r.rep k.toNat) (by rw [len_rep, Nat.mul_comm]; exact hz), rfl, q _ I.fresh⟩


end


section
variable {prog : Program} {w : World} {A : Around} {E : Value → Shared → Prop} {s : Shared}
end

section
variable {X : Cx}

end
end L2

namespace Att
open PySem PySem.W PySem.Calls PyProof.Rows


theorem ints_of_wellAll {P : Params} {h : Heap} : ∀ (ns : List Int) (vs : List Value), WellAll P h vs (ns.map WData.int) → IntsAre vs ns := by
  intro ns
  induction ns with
  | nil =>
    intro vs w
    rw [List.map_nil] at w
    cases w
    exact .nil
  | cons n ns ih =>
    intro vs w
    rw [List.map_cons] at w
    cases w with
    | cons a b =>
      cases a
      exact .cons _ _ (ih _ b)

theorem script_of {l : OpenLaw} {n : Nat} (hn : l.most = some n) {P : Params} {h : Heap} {args : List WData} {vals : List Value}
    (hpre : l.row.toRowW.claim.pre args = true) (hwl : WellAll P h vals args) :
    ∃ a vs ns, vals = [Value.ref a] ∧ args = [WData.list (ns.map WData.int)] ∧ h.get? a = some { cls := .type "list", data := .seq vs.toArray } ∧ IntsAre vs ns ∧ ns.length ≤ n := by
  have hsh : WShape.hasAll [] args [.list .int] = true := (pre_splitW hpre).1
  have hc : l.pre.holds [] { args := args } = true := (pre_splitW hpre).2
  obtain ⟨d, r, rfl, h1, h2⟩ := hasAllW_cons hsh
  obtain rfl := hasAllW_nil h2
  obtain ⟨xs, rfl, h3⟩ := hasW_list h1
  obtain ⟨ns, rfl⟩ := items_int h3
  have hlen : ns.length ≤ n := by
    unfold OpenLaw.pre at hc
    have h4 : (WTm.not (.lt (.lit (.int (n : Int))) (.len (.arg 0)))).holds [] { args := [.list (ns.map .int)] } = true := by
      have h4 := (holds_andW hc).1
      rw [hn] at h4
      exact h4
    have h5 := condW_of h4 (w_not (w_lt w_lit (w_len_list (w_arg rfl))))
    rw [List.length_map] at h5
    refine Nat.le_of_not_lt fun q => ?_
    have q' : (n : Int) < ((ns.length : Nat) : Int) := by omega
    first
      | (rw [decide_eq_true q'] at h5; exact absurd h5 (by decide))
      | (simp at h5; omega)
  cases hwl with
  | cons w1 w2 =>
    cases w2
    cases w1 with
    | list ho hall => exact ⟨_, _, ns, rfl, rfl, ho, ints_of_wellAll ns _ hall, hlen⟩

theorem post_true (l : OpenLaw) (args : List WData) : l.row.toRowW.claim.post args (.bool true) args = true :=
  postW_of (r := l.row.toRowW) (X := (true == true))
    (show WShape.has [] (.bool true) .bool = true by first | rfl | decide | simp [WShape.has, WShape.arms, WShape.armsAll])
    (show (WTm.eq .res (.lit (.bool true))).value [] { args := args, res := some (.bool true), after := args } = some (.bool (true == true)) from w_eq_bool (w_res rfl) w_lit) rfl


section
variable {prog : Program} {w : World} {A : Around} {E : Value → Shared → Prop} {s : Shared} {K : Frag}


def noObjs (h : Heap) : Heap := { h with objs := #[] }
def ledger (h : Heap) (L d : Addr) : List (Addr × Obj) := (List.range h.objs.size).filterMap fun a => if a = L ∨ a = d then none else (h.get? a).map fun o => (a, o)
end
end Att

namespace L2
open PySem PySem.Spec PyProof.Rows

theorem vals_ints : ∀ {vs : List Value} {ns : List Int}, IntsAre vs ns → Vals (ns.map V.int) vs
  | _, _, .nil => .nil
  | _, _, .cons n t h => .cons ⟨t, rfl⟩ (vals_ints h)


def Only (H : Hp) : Prop := ∀ b, H b = none ∨ ∃ o xs, H b = some (.frz o (.lst xs))


theorem law_call {P : Program} {w : World} {K : PySem.W.Frag} {mg mb : Str → Option Value} {CX : CXT} {k : Nat} {fa a : Addr} {fd : FuncData} {x : Str} {sp : Sp} {s₁ : Shared} {vs : List Value} {ns : List Int}
    (KX : K.In s₁.heap) (hns : s₁.heap.Ns mainGlobals mg) (hb : s₁.heap.Ns builtinsNs mb) (hbb : ∀ x : Str, x ≠ "__name__" → mb x = bootBuiltins x) (hlim : s₁.heap.NoLimit) (hg : s₁.gens = #[])
    (ha : s₁.heap.get? a = some { cls := .type "list", data := .seq vs.toArray }) (hi : IntsAre vs ns) (hl : ns.length ≤ sizeLine) (hr : Room k callerA)
    (F : ∀ base : Heap, K.In base → base.Ns mainGlobals mg → FnOk P w K mg base CX k fa fd [x] sp) (hbind : ∀ (s : Shared) (u : Value), BindsTo s fd ⟨[u], []⟩ [(x, u)])
    (hsp : ∀ H : Hp, Only H → SqL K H a (ns.map V.int) → sp [.ref a] H (fun v _ => v = .bl true) fun _ _ _ => False)
    (hCX : ∀ H e s', CX [] H s₁ (fun _ _ _ => False) e s' → False) :
    codeAny (model P w) callerA (.call (.ref fa) ⟨[.ref a], []⟩) (fun r s' => r = .ok (.ret (.bool true)) ∧ OldK s₁.heap s'.heap ∧ s'.os = s₁.os ∧ AllBare s'.gens) s₁ := by
  have rv := vals_ints hi
  have lenV := hi.length
  have core : ∀ H : Hp, Only H → SqL K H a (ns.map V.int) → HOk P w H s₁.heap → (∀ b, H b ≠ none → b = a) → (H a ≠ none → K.lookup a = none) →
      codeAny (model P w) callerA (.call (.ref fa) ⟨[.ref a], []⟩) (fun r s' => r = .ok (.ret (.bool true)) ∧ OldK s₁.heap s'.heap ∧ s'.os = s₁.os ∧ AllBare s'.gens) s₁ := by
    intro H hO hS hok hA hK
    have base_of : ∀ {b : Addr} {o : Obj}, s₁.heap.get? b = some o → H b = none → (hidT s₁.heap H).get? b = some o := fun e n => hidT_get e n
    have noA : ∀ {b : Addr} {o : Obj} {es : Array DictEntry} {ep : Nat}, s₁.heap.get? b = some o → o.data = .dict es ep → H b = none := fun {b o es ep} e d => by
      cases q : H b with
      | none => rfl
      | some u =>
        have e' : b = a := hA b (by rw [q]; simp)
        subst e'
        rw [ha] at e; cases e
        have d' : Data.seq vs.toArray _ = Data.dict es ep := d
        cases d'
    have nsK : ∀ {b : Addr} {m : Str → Option Value}, s₁.heap.Ns b m → (hidT s₁.heap H).Ns b m := fun {b m} ⟨o, es, ep, e, d, r⟩ => ⟨o, es, ep, base_of e (noA e d), d, r⟩
    have hKb : K.In (hidT s₁.heap H) := fun b o e => base_of (KX b o e) (by
      cases q : H b with
      | none => rfl
      | some u =>
        have e' : b = a := hA b (by rw [q]; simp)
        subst e'
        rw [hK (by rw [q]; simp)] at e; cases e)
    have hM : Mod K mg (hidT s₁.heap H) := ⟨hKb, nsK hns, ⟨mb, nsK hb, hbb⟩, let ⟨mc, h1, h2⟩ := hlim; ⟨mc, nsK h1, h2⟩⟩
    have e0 : Env0 P w K mg (hidT s₁.heap H) callerA [] s₁ H := ⟨rfl, hM, fun b o e => of_hidT e, Nat.le_of_eq (hidT_size _ _), trivial, fun b hb => absurd (show b ∈ ([] : List Addr) from hb) (by simp), hok, .of_eq hg⟩
    refine codeAny_mono ((F _ hKb (nsK hns)).run callerA [] s₁ H ⟨[.ref a], []⟩ [.ref a] [.ref a] _ _ hr e0 (hbind s₁ (.ref a)) (.cons rfl .nil) (hsp H hO hS)) fun r s' h => ?_
    cases r with
    | error e => exact (hCX H e s' h).elim
    | ok fl =>
      cases fl with
      | next => exact False.elim h
      | brk => exact False.elim h
      | cont => exact False.elim h
      | ret u =>
        obtain ⟨v, H', os, bare, un, hok', r', q⟩ := h
        have q' : v = .bl true := q
        subst q'
        obtain rfl : u = Value.bool true := r'
        refine ⟨rfl, OldK.of_keep fun b o e => ?_, os, bare⟩
        cases q : H b with
        | none => exact un.keep b o e q (by intro z; exact absurd (show b ∈ ([] : List Addr) from z) (by simp)) (by simp)
        | some u =>
          rcases hO b with z | ⟨ob, xs, z⟩
          · rw [q] at z; cases z
          · have z2 := un.frzs b ob _ z
            obtain ⟨e1, _⟩ := hok b _ z
            obtain ⟨e2, _⟩ := hok' b _ z2
            rw [e] at e1; cases e1
            exact e2
  cases hk : K.lookup a with
  | some o =>
    have e := KX a o hk
    rw [ha] at e
    cases e
    refine core (fun _ => none) (fun _ => .inl rfl) (.inr ⟨_, vs.toArray, _, hk, rfl, rfl, rfl, by rw [List.size_toArray, lenV]; exact hl, by simpa using rv⟩) (fun b u z => by have z' : (none : Option HO) = some u := z; cases z') (fun b z => absurd rfl z) fun z => absurd rfl z
  | none =>
    refine core (fun b => if b = a then some (.frz { cls := .type "list", data := .seq vs.toArray } (.lst (ns.map V.int))) else none) (fun b => ?_) (.inl (.inr ⟨{ cls := .type "list", data := .seq vs.toArray }, if_pos rfl⟩)) (fun b u z => ?_) (fun b z => ?_) fun _ => hk
    · by_cases hb : b = a
      · exact .inr ⟨_, _, if_pos hb⟩
      · exact .inl (if_neg hb)
    · by_cases hb : b = a
      · have z' := (if_pos hb).symm.trans z
        cases z'
        subst hb
        exact ⟨ha, by rw [List.length_map]; exact hl, vs, _, rv, ha⟩
      · have z' := (if_neg hb).symm.trans z
        cases z'
    · by_cases hb : b = a
      · exact hb
      · exact absurd (if_neg hb) z
end L2

namespace L2
open PySem PySem.Spec PyProof.Rows

abbrev KOf {K : PySem.W.Frag} {h : Heap} (_ : K.In h) : PySem.W.Frag := K


end L2




namespace L2
open PySem PySem.Spec PyProof.Rows



def inClass (s : Stmt) (j : Nat) : Stmt := match s with
  | .ClassDef _ _ _ body _ _ _ _ _ _ _ => body.getD j (.Pass ⟨0, 0, 0, 0⟩)
  | _ => .Pass ⟨0, 0, 0, 0⟩
def defArgs (s : Stmt) : Arguments := match s with
  | .FunctionDef _ a _ _ _ _ _ _ _ _ => a
  | _ => { posonlyargs := [], args := [], vararg := none, kwonlyargs := [], kw_defaults := [], kwarg := none, defaults := [] }
def defBody (s : Stmt) : List Stmt := match s with
  | .FunctionDef _ _ b _ _ _ _ _ _ _ => b
  | _ => []
def defScope (s : Stmt) : Scope := match s with
  | .FunctionDef _ _ _ _ _ _ sc _ _ _ => sc
  | _ => { kind := .function, names := [], isGenerator := false, isCoroutine := false }


abbrev CX0 : CXT := fun _ _ _ _ _ _ => False
abbrev E0 : XK := fun _ _ _ => False
theorem pass0 {X : Cx} : Passes CX0 X E0 := fun _ _ _ _ _ _ _ h => h.elim


structure Fun (K : PySem.W.Frag) (x qual : Str) (st : Stmt) (f : Addr) (fd : FuncData) : Prop where
  ex : ∃ (oc : Value) (od : Option Addr) (kV doc pm : Value) (an : Option Addr) (cdv ct : Value) (osl : Array (Option Value)),
    fd = PySem.W.fnOf x qual (defArgs st) (defBody st) (defScope st) .none kV doc pm an cdv ct ∧ K.lookup f = some ⟨oc, od, .func fd, osl⟩ ∧ PySem.W.codeIn K cdv qual = true
  kp : PySem.W.keepIn K (.ref f) = true
section
variable {P : Program} {w : World} {K : PySem.W.Frag} {mg : Str → Option Value} {base : Heap}

theorem Fun.ok {x qual : Str} {st : Stmt} {f : Addr} {fd : FuncData} {N ps : List Str} {k : Nat} {sp : Sp} (F : Fun K x qual st f fd) (S : FnScope N ps (defScope st)) (len : ∀ vs H Q E, sp vs H Q E → vs.length = ps.length)
    (hbody : ∀ (cdv : Value) (A : Around) (outer : List Env) (s : Shared) (H : Hp) (vs : List V) (Q : VK) (E : XK), Room k (A.deeper (envOfC qual (defScope st) s.heap.objs.size f cdv)) → sp vs H Q E →
      ∃ t, PSs (cxOf CX0 P w K mg base N qual (defScope st) f cdv A outer s H E).nox (defBody st) t ∧ t { nx := fun _ H' => Q .non H', rt := Q } (start N vs) H) : FnOk P w K mg base CX0 (k + 1) f fd ps sp := by
  obtain ⟨oc, od, kV, doc, pm, an, cdv, ct, osl, rfl, lk, hcd⟩ := F.ex
  refine fn_of lk hcd S len fun A outer s H vs Q E hr hsp => ?_
  obtain ⟨t, h, q⟩ := hbody cdv A outer s H vs Q E hr hsp
  exact ⟨t, h.nox, q⟩

theorem Fun.binds {x qual : Str} {st : Stmt} {f : Addr} {fd : FuncData} {ps : List Str} (F : Fun K x qual st f fd)
    (h : ∀ (kV doc pm : Value) (an : Option Addr) (cdv ct : Value) (us : List Value), us.length = ps.length → bindArgs (PySem.W.fnOf x qual (defArgs st) (defBody st) (defScope st) .none kV doc pm an cdv ct) ⟨us, []⟩ = pure (ps.zip us)) : Binds K fd ps [] := by
  obtain ⟨oc, od, kV, doc, pm, an, cdv, ct, osl, rfl, lk, hcd⟩ := F.ex
  exact .all (h kV doc pm an cdv ct)
theorem fun_mk {x qual : Str} {st : Stmt} {f : Addr} {oc : Value} {od an : Option Addr} {osl : Array (Option Value)} {kV doc pm cdv ct : Value} (l : K.lookup f = some ⟨oc, od, .func (PySem.W.fnOf x qual (defArgs st) (defBody st) (defScope st) .none kV doc pm an cdv ct), osl⟩)
    (c : PySem.W.codeIn K cdv qual = true) (k : PySem.W.keepIn K (.ref f) = true) : Fun K x qual st f (PySem.W.fnOf x qual (defArgs st) (defBody st) (defScope st) .none kV doc pm an cdv ct) := ⟨⟨oc, od, kV, doc, pm, an, cdv, ct, osl, rfl, l, c⟩, k⟩
end
section
variable {X : Cx}
theorem pv (i : Nat) {x : Str} {pos : Pos} (hN : X.N[i]? = some x := by rfl) (hv : Vis X.env.scope x := by first | exact Or.inl rfl | exact Or.inr (Or.inl rfl) | exact Or.inr (Or.inr rfl)) (hd : (x == ("__debug__" : Str)) = false := by decide)
    (hcd : (x == ("__classdict__" : Str)) = false := by decide) : PE X (.Name x pos) (tVar i) := pe_var hN hv hd hcd
end


theorem ite2 {c A B : Prop} [Decidable c] (h1 : c → A) (h2 : ¬ c → B) : if c then A else B := by
  by_cases h : c
  · rw [if_pos h]
    exact h1 h
  · rw [if_neg h]
    exact h2 h
def Same (H H' : Hp) : Prop := ∀ b o, H b = some o → H' b = some o
theorem Same.refl (H : Hp) : Same H H := fun _ _ h => h
theorem Same.trans {H H1 H2 : Hp} (a : Same H H1) (b : Same H1 H2) : Same H H2 := fun c o h => b c o (a c o h)
theorem Same.free {H H' : Hp} (e : Same H H') {l : Addr} (h : H' l = Option.none) : H l = Option.none := by
  cases q : H l with
  | none => rfl
  | some o =>
    rw [e l o q] at h
    cases h
theorem Same.seq {K : PySem.W.Frag} {H H' : Hp} {a : Addr} {xs : List V} (e : Same H H') (h : SqL K H a xs) : SqL K H' a xs := by
  rcases h with (h | ⟨o, h⟩) | h
  · exact .inl (.inl (e _ _ h))
  · exact .inl (.inr ⟨o, e _ _ h⟩)
  · exact .inr h

end L2

set_option Elab.async false
set_option linter.all false
set_option maxRecDepth 100000
set_option maxHeartbeats 4000000

namespace L2
open PySem PySem.Spec PyProof.Rows


def clOf (cells : List (Str × Addr)) : List (Str × NameKind) → List (Str × Addr) → List (Str × Addr)
  | [], acc => acc
  | (n, k) :: r, acc => clOf cells r (if (k == NameKind.free) = true then (n, (cells.lookup n).getD 0) :: acc else acc)

theorem closure_ok {sc : Scope} {env : Env} (h : ∀ n, (n, NameKind.free) ∈ sc.names → ∃ c, env.cells.lookup n = some c) : closureFor sc env = pure (clOf env.cells sc.names []) := by
  have all : ∀ (l : List (Str × NameKind)) (acc : List (Str × Addr)), (∀ n, (n, NameKind.free) ∈ l → ∃ c, env.cells.lookup n = some c) →
      (forIn l acc fun (x : Str × NameKind) (cs : List (Str × Addr)) => match x with
        | (name, kind) => if (kind == NameKind.free) = true then (do let c ← cellOf env name; pure (ForInStep.yield ((name, c) :: cs))) else pure (ForInStep.yield cs)) = (pure (clOf env.cells l acc) : Sem _) := by
    intro l
    induction l with
    | nil => intro acc _; rfl
    | cons x r ih =>
      intro acc hl
      obtain ⟨n, k⟩ := x
      rw [List.forIn_cons]
      by_cases hk : (k == NameKind.free) = true
      · have hk' : k = NameKind.free := by simpa using hk
        subst hk'
        obtain ⟨c, hc⟩ := hl n List.mem_cons_self
        have e1 : cellOf env n = pure c := by unfold cellOf; rw [hc]
        simp only [beq_self_eq_true, if_true, e1, pure_bind]
        rw [ih _ fun m hm => hl m (List.mem_cons_of_mem _ hm)]
        show _ = (pure (clOf env.cells r (if (NameKind.free == NameKind.free) = true then (n, (env.cells.lookup n).getD 0) :: acc else acc)) : Sem _)
        rw [if_pos (by simp), hc]
        rfl
      · have hk2 : (k == NameKind.free) = false := by simpa using hk
        simp only [hk2, Bool.false_eq_true, if_false, pure_bind]
        rw [ih _ fun m hm => hl m (List.mem_cons_of_mem _ hm)]
        show _ = (pure (clOf env.cells r (if (k == NameKind.free) = true then (n, (env.cells.lookup n).getD 0) :: acc else acc)) : Sem _)
        rw [if_neg hk]
  have := all sc.names [] h
  unfold closureFor
  dsimp only
  rw [this, pure_bind]

theorem lookup_clOf {cells : List (Str × Addr)} {x : Str} {c : Addr} : ∀ {l : List (Str × NameKind)} {acc : List (Str × Addr)}, (∀ n, (n, NameKind.free) ∈ l → ∃ c, cells.lookup n = some c) →
    (acc.lookup x = some c → cells.lookup x = some c) → (clOf cells l acc).lookup x = some c → cells.lookup x = some c
  | [], _, _, ha, h => ha h
  | (n, k) :: r, acc, hl, ha, h => by
    refine lookup_clOf (l := r) (fun m hm => hl m (List.mem_cons_of_mem _ hm)) ?_ h
    by_cases hk : (k == NameKind.free) = true
    · rw [if_pos hk]
      have hk' : k = NameKind.free := by simpa using hk
      subst hk'
      obtain ⟨d, hd⟩ := hl n List.mem_cons_self
      intro e
      rw [List.lookup_cons] at e
      cases hx : x == n with
      | true =>
        rw [hx] at e
        have hxn : x = n := by simpa using hx
        subst hxn
        rw [hd] at e ⊢
        exact e
      | false => rw [hx] at e; exact ha e
    · rw [if_neg hk]; exact ha

theorem clOf_has {cells : List (Str × Addr)} {x : Str} : ∀ {l : List (Str × NameKind)} {acc : List (Str × Addr)}, ((x, NameKind.free) ∈ l ∨ ∃ c, acc.lookup x = some c) → ∃ c, (clOf cells l acc).lookup x = some c
  | [], _, h => by
    rcases h with h | h
    · exact nomatch h
    · exact h
  | (n, k) :: r, acc, h => by
    refine clOf_has (l := r) ?_
    by_cases hk : (k == NameKind.free) = true
    · rw [if_pos hk]
      by_cases hx : (x == n) = true
      · exact .inr ⟨(cells.lookup n).getD 0, by rw [List.lookup_cons, hx]⟩
      · have hx2 : (x == n) = false := by simpa using hx
        rcases h with h | ⟨c, h⟩
        · rcases List.mem_cons.mp h with e | e
          · have e1 : x = n := congrArg Prod.fst e
            exact absurd (by simp [e1]) hx
          · exact .inl e
        · exact .inr ⟨c, by rw [List.lookup_cons, hx2]; exact h⟩
    · rw [if_neg hk]
      rcases h with h | h
      · rcases List.mem_cons.mp h with e | e
        · have e2 : NameKind.free = k := congrArg Prod.snd e
          exact absurd (by simp [← e2]) hk
        · exact .inl e
      · exact .inr h


def compCx (X : Cx) (sc : Scope) (N' : List Str) (C : Addr) (s₀ : Shared) (H₀ : Hp) (fp : List Addr) : Cx where
  prog := X.prog
  w := X.w
  K := X.K
  mg := X.mg
  base := X.base
  A := X.A
  N := N'
  s₀ := s₀
  H₀ := H₀
  env := compEnvC sc (clOf X.env.cells sc.names []) C X.env
  outer := X.stack
  stack := X.stack
  ex := fp
  fn := fun _ => false
  calm := X.calm
  pn := []
  xe := fun _ _ => False


def capS (cap : List (Option Nat)) (σ : St) : St := cap.map fun o => o.bind fun j => (σ[j]?).join

structure CapOk (X : Cx) (sc : Scope) (N' : List Str) (cap : List (Option Nat)) : Prop where
  kind : sc.kind = .function
  len : cap.length = N'.length
  nocell : ∀ x ∈ sc.names, x.2 ≠ NameKind.cell
  locals : ∀ x ∈ sc.names, x.2 = NameKind.local → sc.names.lookup x.1 = some NameKind.local
  free : ∀ n, (n, NameKind.free) ∈ sc.names → X.env.kindOf n = some .cell ∨ X.env.kindOf n = some .free
  slots : ∀ (i j : Nat) (x : Str), N'[i]? = some x → cap[i]? = some (some j) → X.N[j]? = some x ∧ ((relabel sc X.env).names.lookup x = some .cell ∨ (relabel sc X.env).names.lookup x = some .free) ∧ Vis X.env.scope x

section
variable {X : Cx} {sc : Scope} {N' : List Str} {cap : List (Option Nat)} {pins : List (Addr × Obj)} {σ : St} {H : Hp} {s : Shared} {C : Addr} {fp : List Addr}

theorem CapOk.cells (c : CapOk X sc N' cap) (ok : X.Ok) : ∀ n, (n, NameKind.free) ∈ sc.names → ∃ c, X.env.cells.lookup n = some c := fun n hn => ok.has n (c.free n hn)

theorem relabel_mem {env : Env} {x : Str} {k : NameKind} (hnc : ∀ x ∈ sc.names, x.2 ≠ NameKind.cell) (h : (relabel sc env).names.lookup x = some k) (hk : k = .cell ∨ k = .free) : (x, NameKind.free) ∈ sc.names := by
  have all : ∀ (l : List (Str × NameKind)), (∀ x ∈ l, x.2 ≠ NameKind.cell) → (l.map fun (n, k) => if (k == NameKind.free && env.scope.kind == .function && env.kindOf n == some .cell) then (n, NameKind.cell) else (n, k)).lookup x = some k → (x, NameKind.free) ∈ l := by
    intro l
    induction l with
    | nil => intro _ h; exact nomatch h
    | cons p r ih =>
      intro hn h
      obtain ⟨n, q⟩ := p
      rw [List.map_cons, List.lookup_cons] at h
      by_cases hc : (q == NameKind.free && env.scope.kind == .function && env.kindOf n == some .cell) = true
      · have hq : q = NameKind.free := by
          have := hc
          simp only [Bool.and_eq_true] at this
          simpa using this.1.1
        simp only [hc, if_true] at h
        cases hx : x == n with
        | true =>
          have e : x = n := by simpa using hx
          rw [e, hq]
          exact List.mem_cons_self
        | false =>
          rw [hx] at h
          exact List.mem_cons_of_mem _ (ih (fun y hy => hn y (List.mem_cons_of_mem _ hy)) h)
      · simp only [hc] at h
        cases hx : x == n with
        | true =>
          have e : x = n := by simpa using hx
          simp only [Bool.false_eq_true, if_false, hx] at h
          have e2 : q = k := by simpa using h
          rcases hk with z | z
          · exact absurd (e2.trans z) (hn (n, q) List.mem_cons_self)
          · rw [e, ← z, ← e2]
            exact List.mem_cons_self
        | false =>
          simp only [Bool.false_eq_true, if_false, hx] at h
          exact List.mem_cons_of_mem _ (ih (fun y hy => hn y (List.mem_cons_of_mem _ hy)) h)
  exact all sc.names hnc h

theorem comp_ok (c : CapOk X sc N' cap) (I : Inv X pins σ H s) (hC : s.heap.objs.size ≤ C) (hf : ∀ b ∈ fp, FpOk X pins H b) (hb : ∀ b ∈ fp, b < s.heap.objs.size) : (compCx X sc N' C s H fp).Ok where
  mod := I.ok.mod
  kind := c.kind
  glob := I.ok.glob
  blt := I.ok.blt
  above := hC
  inj := fun x y a hx hy => I.ok.inj x y a (lookup_clOf (c.cells I.ok) (fun z => by simp at z) hx) (lookup_clOf (c.cells I.ok) (fun z => by simp at z) hy)
  has := fun x hx => by
    refine clOf_has (.inl ?_)
    rcases hx with hx | hx
    · exact relabel_mem c.nocell hx (.inl rfl)
    · exact relabel_mem c.nocell hx (.inr rfl)
  cab := fun _ _ h => nomatch h
  hd := I.ok.hd
  frames := I.ok.frames
  stk := .inl rfl
  exf := fun b hb' => ⟨Nat.ne_of_lt (Nat.lt_of_lt_of_le (hb b hb') hC), fun x a e => (hf b hb').2.2.2.2.1 x a (lookup_clOf (c.cells I.ok) (fun z => by simp at z) e)⟩
  bs := I.bs
  bsz := Nat.le_trans I.ok.bsz I.sz
  noex := fun b o e hb' => by
    rcases (hf b hb').2.2.2.1 with z | z
    · exact I.ok.noex b o e z
    · exact absurd (Nat.lt_of_lt_of_le (Heap.lt_size e) (Nat.le_trans I.ok.bsz z)) (Nat.lt_irrefl _)
  exfs := fun b hb' z => by
    obtain ⟨_, f1, f2, _⟩ := hf b hb'
    rcases List.mem_cons.mp (I.stkSub b z) with e | e
    · exact f1 e
    · exact f2 e
  funs := I.stack
  frf := I.stkFree


theorem comp_inv (c : CapOk X sc N' cap) (I : Inv X pins σ H s) {D : Addr} {h1 : Heap} {t : Nat} (hC : C = s.heap.objs.size + 1) (hD : D = s.heap.objs.size) (hf : ∀ b ∈ fp, FpOk X pins H b) (hb : ∀ b ∈ fp, b < s.heap.objs.size)
    (hn : h1.Ns C fun _ => none) (hl : h1.get? D = some { cls := .type "list", data := .seq #[] 0 }) (k : ∀ b o, s.heap.get? b = some o → h1.get? b = some o) :
    Inv (compCx X sc N' C s H fp) [] (capS cap σ) (upd H D (.lst [])) { s with heap := h1, toks := t } := by
  have hCs : s.heap.objs.size ≤ C := by rw [hC]; exact Nat.le_succ _
  have hCD : C ≠ D := by rw [hC, hD]; exact Nat.succ_ne_self _
  have ok := comp_ok (C := C) (fp := fp) c I hCs hf hb
  have hDn : H D = none := by rw [hD]; exact I.fresh
  have ltc : ∀ x a, (clOf X.env.cells sc.names []).lookup x = some a → X.env.cells.lookup x = some a := fun x a e => lookup_clOf (c.cells I.ok) (fun z => by simp at z) e
  have cel : ∀ a v, s.heap.IsCell a v → h1.IsCell a v := fun a v ⟨o, ho, hd⟩ => ⟨o, k a o ho, hd⟩
  have ltD : ∀ a v, s.heap.IsCell a v → a ≠ D := fun a v ⟨o, ho, hd⟩ => by rw [hD]; exact Nat.ne_of_lt (Heap.lt_size ho)
  refine ⟨ok, rfl, I.bare, Un.laid k (by rw [hD]; exact Nat.le_refl _) hDn, ⟨_, hn, fun i x v e1 e2 e3 => ?_⟩, fun x a e => ?_, ?_, fun x a e => ?_, fun p hp => absurd hp (by simp [compCx]), ?_, ?_⟩
  · have e2' : cap[i]?.map (fun o => o.bind fun j => (σ[j]?).join) = some (some v) := by
      have := e2
      unfold capS at this
      rw [List.getElem?_map] at this
      exact this
    cases hc : cap[i]? with
    | none => rw [hc] at e2'; cases e2'
    | some o =>
      rw [hc] at e2'
      cases o with
      | none => cases e2'
      | some j =>
        have e4 : (σ[j]?).join = some v := by simpa using e2'
        obtain ⟨q1, q2', q3⟩ := c.slots i j x e1 hc
        have q2 : (x, NameKind.free) ∈ sc.names := q2'.elim (fun z => relabel_mem c.nocell z (.inl rfl)) fun z => relabel_mem c.nocell z (.inr rfl)
        obtain ⟨m, hm, hl'⟩ := I.loc
        have e5 : σ[j]? = some (some v) := by
          cases z : σ[j]? with
          | none => rw [z] at e4; cases e4
          | some y => rw [z] at e4; cases y with
            | none => cases e4
            | some y' => cases e4; rfl
        obtain ⟨u, r, l⟩ := hl' j x v q1 e5 q3
        refine ⟨u, r, ?_⟩
        obtain ⟨a, ha⟩ := clOf_has (cells := X.env.cells) (l := sc.names) (acc := []) (x := x) (.inl q2)
        have kd : X.env.kindOf x = some .cell ∨ X.env.kindOf x = some .free := c.free x q2
        rcases l with ⟨hk, _⟩ | ⟨hk, a', ha', hcell⟩
        · rcases kd with z | z <;> rw [z] at hk <;> cases hk
        · have e6 : a' = a := by
            have := ltc x a ha
            rw [ha'] at this
            exact Option.some.inj this
          refine .inr ⟨q2', a, ha, ?_⟩
          rw [← e6]
          exact cel _ _ hcell
  · obtain ⟨v, z⟩ := I.cell x a (ltc x a e)
    exact ⟨v, cel a v z⟩
  · show upd H D (.lst []) C = none
    rw [upd_ne hCD]
    exact I.hok.fresh hCs
  · show upd H D (.lst []) a = none
    obtain ⟨v, z⟩ := I.cell x a (ltc x a e)
    rw [upd_ne (ltD a v z)]
    exact I.freeC x a (ltc x a e)
  · exact I.hok.laid k (by rw [hD]; exact Nat.le_refl _) ⟨Nat.zero_le _, [], 0, .nil, hl⟩
  · show (capS cap σ).length = N'.length
    unfold capS
    rw [List.length_map, c.len]
end
end L2

set_option Elab.async false
set_option linter.all false
set_option maxRecDepth 100000
set_option maxHeartbeats 4000000
namespace L2
open PySem PySem.Spec PyProof.Rows


def capB (osc : Scope) (N : List Str) (sc : Scope) (N' : List Str) (cap : List (Option Nat)) : Bool :=
  decide (sc.kind = .function) && decide (cap.length = N'.length) && sc.names.all (fun x => decide (x.2 ≠ NameKind.cell)) && sc.names.all (fun x => decide (x.2 = NameKind.local → sc.names.lookup x.1 = some NameKind.local)) &&
  sc.names.all (fun x => decide (x.2 = NameKind.free → (osc.names.lookup x.1 = some .cell ∨ osc.names.lookup x.1 = some .free))) &&
  (N'.zip cap).all (fun p => match p.2 with
    | none => true
    | some j => decide (N[j]? = some p.1) && decide (((sc.names.map fun (n, k) => if (k == .free && osc.kind == .function && osc.names.lookup n == some .cell) then (n, NameKind.cell) else (n, k)).lookup p.1 = some .cell) ∨
        ((sc.names.map fun (n, k) => if (k == .free && osc.kind == .function && osc.names.lookup n == some .cell) then (n, NameKind.cell) else (n, k)).lookup p.1 = some .free)) &&
      decide (osc.names.lookup p.1 = some .local ∨ osc.names.lookup p.1 = some .cell ∨ osc.names.lookup p.1 = some .free))
theorem capB_ok {X : Cx} {sc : Scope} {N' : List Str} {cap : List (Option Nat)} (h : capB X.env.scope X.N sc N' cap = true) : CapOk X sc N' cap := by
  unfold capB at h
  rw [Bool.and_eq_true, Bool.and_eq_true, Bool.and_eq_true, Bool.and_eq_true, Bool.and_eq_true, List.all_eq_true, List.all_eq_true, List.all_eq_true, List.all_eq_true] at h
  obtain ⟨⟨⟨⟨⟨h1, h2⟩, h3⟩, h4⟩, h5⟩, h6⟩ := h
  refine ⟨of_decide_eq_true h1, of_decide_eq_true h2, fun x hx => of_decide_eq_true (h3 x hx), fun x hx => of_decide_eq_true (h4 x hx), fun n hn => of_decide_eq_true (h5 _ hn) rfl, fun i j x e1 e2 => ?_⟩
  have hm : (x, some j) ∈ N'.zip cap := by
    have e : (N'.zip cap)[i]? = some (x, some j) := by
      rw [List.getElem?_zip_eq_some]
      exact ⟨e1, e2⟩
    exact List.mem_of_getElem? e
  have h7 := h6 _ hm
  dsimp only at h7
  rw [Bool.and_eq_true, Bool.and_eq_true] at h7
  obtain ⟨⟨h8, h9⟩, h10⟩ := h7
  exact ⟨of_decide_eq_true h8, of_decide_eq_true (p := (relabel sc X.env).names.lookup x = some .cell ∨ (relabel sc X.env).names.lookup x = some .free) h9, of_decide_eq_true (p := X.env.scope.names.lookup x = some .local ∨ X.env.scope.names.lookup x = some .cell ∨ X.env.scope.names.lookup x = some .free) h10⟩


def PTs (X : Cx) (ifs : List Expr) (t : TT) : Prop :=
  ∀ (pins : List (Addr × Obj)) (s : Shared) (σ : St) (H : Hp) (Q : Bool → Hp → Prop), Inv X pins σ H s → t σ H Q →
    wpAny (model X.prog X.w) X.A (forIn ifs true fun c r => if r = true then do let ok ← isTrue c X.env (eval c X.env); pure (ForInStep.yield ok) else pure (ForInStep.yield r)) (TP X pins σ Q) X.xe s
def tYes : TT := fun _ H Q => Q true H
theorem pts_nil {X : Cx} : PTs X [] tYes := fun _ _ _ H _ I h => wpAny_tests_nil ⟨H, I, h⟩
def RunC (J : It) (g : TG) (tc : TT) (te : TE) (D : Addr) (Q : Hp → Prop) (τ : St) (H : Hp) : Prop :=
  ∃ W : Nat → Nat → List V → St → Hp → Prop, (∃ m, W 0 m [] τ H) ∧ ∀ i m ys τ H, W i m ys τ H →
    (J.stop i H ∧ Q H) ∨
    (J.go i H ∧ ∃ N : List V → St → Hp → Prop, (∀ ys' τ' H', N ys' τ' H' → ∃ m', m' < m ∧ W (i + 1) m' ys' τ' H') ∧
      ∀ x H', J.yld i H x H' → g x τ H' fun τ2 H2 => tc τ2 H2 fun b H3 => if b = true then te τ2 H3 fun y H4 => H4 D = some (.lst ys) ∧ ys.length < sizeLine ∧ N (ys ++ [y]) τ2 (upd H4 D (.lst (ys ++ [y]))) else N ys τ2 H3)

section
variable {X : Cx} {sc : Scope} {N' : List Str} {cap : List (Option Nat)} {tg elt iter : Expr} {ifs : List Expr} {pos : Pos} {g : TG} {tc : TT} {te : TE}

theorem comp_loop {Y : Cx} {J : It} {fp : List Addr} {it D : Addr} {tn : Nat → Heap → Prop} {R : Result → Shared → Prop} {Q : Hp → Prop} {τ : St} {H : Hp} {s : Shared}
    (hx : Y.xe = fun _ _ => False) (hc : Y.calm = true) (hg : PG Y tg g) (ht : PTs Y ifs tc) (he : PE Y elt te) (T : Turn Y.prog Y.w Y.K tg J fp it tn) (st : tn 0 s.heap) (hf : ∀ b ∈ fp, FpOk Y [] H b) (I : Inv Y [] τ H s)
    (h : RunC J g tc te D Q τ H) (hR : ∀ τ' H' s', Inv Y [] τ' H' s' → Q H' → R (.ok .next) s') :
    codeAny (model Y.prog Y.w) Y.A (.compLoop (.ListComp elt [⟨tg, iter, ifs, 0⟩] sc pos) 0 (.ref it) (.ref D) Y.env) R s := by
  obtain ⟨W, ⟨m0, w0⟩, turn⟩ := h
  have stat : ∀ {H' : Hp}, (∀ b ∈ fp, H' b = none) → ∀ b ∈ fp, FpOk Y [] H' b := fun hn b hb => ⟨hn b hb, (hf b hb).2⟩
  have no : ∀ {P : Prop} {e : Value} {s' : Shared}, Y.xe e s' → P := fun z => by rw [hx] at z; exact z.elim
  refine codeAny_loop rfl (fun n s' => ∃ i ys τ' H', Inv Y [] τ' H' s' ∧ tn i s'.heap ∧ (∀ b ∈ fp, H' b = none) ∧ W i n ys τ' H') ?_ m0 ⟨0, [], τ, H, I, st, fun b hb => (hf b hb).1, w0⟩
  rintro n s3 ⟨i, ys, τ3, H3, I3, st3, fr3, w3⟩
  show wpAny _ Y.A ((compTurn (.ListComp elt [⟨tg, iter, ifs, 0⟩] sc pos) 0 (.ref it) (.ref D) Y.env).onRaise (fun x => do noteFrame x Y.env; theTreesLotGoes x)) _ _ s3
  refine wpAny_noted ?_
  rw [compTurn_list]
  refine wpAny_bind (wpAny_standAt (wpAny_bind ?_))
  rcases turn i n ys τ3 H3 w3 with ⟨stop, qn⟩ | ⟨go, N, hN, step⟩
  · refine wpAny_mono (T.done Y rfl rfl rfl hc i [] s3 τ3 H3 (fun _ _ => False) I3 (stat fr3) st3 stop) (fun r s4 ⟨hr, I4⟩ => ?_) fun _ _ z => z.elim
    subst hr
    exact wpAny_pure (hR _ _ _ I4 qn)
  · refine wpAny_mono (T.item Y rfl rfl rfl hc i [] s3 τ3 H3 (fun _ _ => False) I3 (stat fr3) st3 go) (fun r s4 ⟨u, hr, h4⟩ => ?_) fun _ _ z => z.elim
    subst hr
    refine wpAny_bind (wpAny_mono h4 (fun _ s5 ⟨x, H5, I5, r5, y5, st5, fr5⟩ => ?_) fun _ _ z => z.elim)
    have I5' := I5.pinned (stat fr5) (T.obj _ _ st5)
    have again : ∀ {τ7 : St} {H7 : Hp} {ys7 : List V} {s7 : Shared}, Inv Y ([] ++ pinsAt fp s5.heap) τ7 H7 s7 → N ys7 τ7 H7 → ∃ m, m < n ∧ ∃ i ys τ' H', Inv Y [] τ' H' s7 ∧ tn i s7.heap ∧ (∀ b ∈ fp, H' b = none) ∧ W i m ys τ' H' := fun {τ7 H7 ys7 s7} I7 n7 => by
      obtain ⟨m', hm, w7⟩ := hN ys7 τ7 H7 n7
      refine ⟨m', hm, i + 1, ys7, τ7, H7, I7.unpinned, T.keep _ _ _ st5 fun b hb o e => (I7.pin (b, o) (List.mem_append_right _ (List.mem_append_right _ (mem_pinsAt hb e)))).1, fun b hb => ?_, w7⟩
      obtain ⟨o, e, d⟩ := T.obj _ _ st5 b hb
      exact (I7.pin (b, o) (List.mem_append_right _ (List.mem_append_right _ (mem_pinsAt hb e)))).2.1
    refine wpAny_bind (wpAny_mono (hg _ s5 τ3 H5 x u _ I5' r5 (step x H5 y5)) (fun _ s6 ⟨τ6, H6, I6, q6⟩ => ?_) fun _ _ z => no z)
    refine wpAny_bind (wpAny_mono (ht _ s6 τ6 H6 _ I6 q6) (fun ok s7 ⟨H7, I7, q7⟩ => ?_) fun _ _ z => no z)
    cases ok with
    | false =>
      have q8 : N ys τ6 H7 := by simpa using q7
      exact wpAny_pure ⟨rfl, again I7 q8⟩
    | true =>
      have q8 : te τ6 H7 fun y H4 => H4 D = some (.lst ys) ∧ ys.length < sizeLine ∧ N (ys ++ [y]) τ6 (upd H4 D (.lst (ys ++ [y]))) := by simpa using q7
      refine wpAny_bind (wpAny_bind (wpAny_mono (he _ s7 τ6 H7 _ I7 q8) (fun y s8 ⟨v8, H8, I8, r8, hD, hl, n8⟩ => ?_) fun _ _ z => no z))
      refine wpAny_bind (wpAny_mono (mt_append _ s8 τ6 H8 (.ref D) [v8] (.ref D) [y] (fun _ H9 => N (ys ++ [v8]) τ6 H9) I8 rfl (.cons r8 .nil) ⟨D, ys, v8, rfl, rfl, hD, hl, n8⟩) (fun _ s9 ⟨_, H9, I9, _, n9⟩ => ?_) fun _ _ z => no z)
      exact wpAny_pure (wpAny_pure ⟨rfl, again I9 n9⟩)


theorem comp_block {pins : List (Addr × Obj)} {σ : St} {H : Hp} {s : Shared} {J : It} {fp : List Addr} {it : Addr} {tn : Nat → Heap → Prop} {RR : Value → Addr → Result → Shared → Prop} {Q : Addr → Hp → Prop} {E : Value → Shared → Prop}
    (c : CapOk X sc N' cap) (hc : X.calm = true) (hg : ∀ C s₀ H₀ fp, PG (compCx X sc N' C s₀ H₀ fp) tg g) (ht : ∀ C s₀ H₀ fp, PTs (compCx X sc N' C s₀ H₀ fp) ifs tc) (he : ∀ C s₀ H₀ fp, PE (compCx X sc N' C s₀ H₀ fp) elt te)
    (I : Inv X pins σ H s) (T : Turn X.prog X.w X.K tg J fp it tn) (st : tn 0 s.heap) (hf : ∀ b ∈ fp, FpOk X pins H b)
    (h : ∀ D, H D = none → RunC J g tc te D (Q D) (capS cap σ) (upd H D (.lst [])))
    (hR : ∀ D C s' H' m', H D = none → s.heap.objs.size ≤ C → s'.os = s.os → AllBare s'.gens → Un (frs X.stack) fp H H' s.heap s'.heap → HOk X.prog X.w H' s'.heap → s'.heap.Ns C m' → H' C = none → C ∉ fp → Q D H' → RR (.ref D) C (.ok .next) s') :
    wpAny (model X.prog X.w) X.A (newList []) (fun acc s₃ => wpAny (model X.prog X.w) X.A (newFunctionEnv sc X.env.globals (clOf X.env.cells sc.names []) [] X.env.qual none .none (some X.env)) (fun cenv s₄ =>
      codeAny (model X.prog X.w) X.A (.compStart (.ListComp elt [⟨tg, iter, ifs, 0⟩] sc pos) 0 (.ref it) acc { cenv with scope := relabel sc X.env }) (RR acc cenv.locals) s₄) E s₃) E s := by
  have hb : ∀ b ∈ fp, b < s.heap.objs.size := fun b hb => by
    obtain ⟨o, e, _⟩ := T.obj _ _ st b hb
    exact Heap.lt_size e
  refine wpAny_newObj_type (wpAny_newFunctionEnv c.nocell (by intro y hy; simp at hy) (fun h₁ hns₁ hsb₁ => ?_) c.kind)
  dsimp only at hns₁ hsb₁ ⊢
  generalize hH2 : s.heap.push { cls := .type "list", dict := none, data := .seq ([] : List Value).toArray } = H2 at hns₁ hsb₁ ⊢
  have hC : H2.objs.size = s.heap.objs.size + 1 := by rw [← hH2, Heap.size_push]
  have hCl : s.heap.objs.size ≤ H2.objs.size := by rw [hC]; exact Nat.le_succ _
  have hCn : s.heap.objs.size ≠ H2.objs.size := by rw [hC]; exact (Nat.succ_ne_self _).symm
  have old : ∀ b o, s.heap.get? b = some o → h₁.get? b = some o := fun b o e => by
    have l1 := Heap.lt_size e
    exact hsb₁.extBut b o (Nat.ne_of_lt (Nat.lt_of_lt_of_le l1 hCl)) (Heap.get?_push_of_some _ (hH2 ▸ Heap.get?_push_of_some _ e))
  have hl : h₁.get? s.heap.objs.size = some { cls := .type "list", data := .seq #[] 0 } := hsb₁.extBut _ _ hCn (Heap.get?_push_of_some _ (hH2 ▸ Heap.get?_push_size _ rfl))
  have hns₂ : h₁.Ns H2.objs.size fun _ => none := by simpa using hns₁
  have I4 : Inv (compCx X sc N' H2.objs.size s H fp) [] (capS cap σ) (upd H s.heap.objs.size (.lst [])) { s with heap := h₁, toks := s.toks + ([] : List (Str × Value)).length } := comp_inv c I hC rfl hf hb hns₂ hl old
  have hfr : H s.heap.objs.size = none := I.fresh
  have f4 : ∀ b ∈ fp, FpOk (compCx X sc N' H2.objs.size s H fp) [] (upd H s.heap.objs.size (.lst [])) b := fun b hb' => by
    obtain ⟨f0, f1, f2, f3, f4, f5⟩ := hf b hb'
    have lb := hb b hb'
    refine ⟨by rw [upd_ne (Nat.ne_of_lt lb)]; exact f0, (Nat.ne_of_lt (Nat.lt_of_lt_of_le lb hCl) : b ≠ H2.objs.size), fun z => ?_, .inl hb', fun x a e => f4 x a (lookup_clOf (c.cells I.ok) (fun z => by simp at z) e), fun p hp => absurd hp (by simp [compCx])⟩
    rcases List.mem_cons.mp (I.stkSub b z) with e | e
    · exact f1 e
    · exact f2 e
  have st4 : tn 0 h₁ := T.keep _ _ _ st fun b _ o e => old b o e
  have loop : ∀ s₅ : Shared, s₅ = { s with heap := h₁, toks := s.toks + ([] : List (Str × Value)).length } →
      codeAny (model X.prog X.w) X.A (.compLoop (.ListComp elt [⟨tg, iter, ifs, 0⟩] sc pos) 0 (.ref it) (.ref s.heap.objs.size) (compCx X sc N' H2.objs.size s H fp).env) (RR (.ref s.heap.objs.size) H2.objs.size) s₅ := by
    rintro s₅ rfl
    refine comp_loop (Y := compCx X sc N' H2.objs.size s H fp) (J := J) (fp := fp) (tn := tn) (Q := Q s.heap.objs.size) rfl hc (hg _ _ _ _) (ht _ _ _ _) (he _ _ _ _) T st4 f4 I4 (h _ hfr) fun τ' H' s' I' q' => ?_
    obtain ⟨m', hn', _⟩ := I'.loc
    exact hR _ _ s' H' m' hfr hCl I'.os I'.bare I'.base I'.hok hn' I'.free (fun z => absurd (Nat.lt_of_lt_of_le (hb _ z) hCl) (Nat.lt_irrefl _)) q'
  exact codeAny_compStart_list (loop _ rfl) (T.self _ 0 _ _ _ st4 (loop _ rfl))

def tComp (wi : TI) (cap : List (Option Nat)) (g : TG) (tc : TT) (te : TE) : TE := fun σ H Q => wi σ H fun J H1 => ∀ D, H1 D = none → RunC J g tc te D (fun H' => Q (.ref D) H') (capS cap σ) (upd H1 D (.lst []))

theorem Inv.fpCh {pins : List (Addr × Obj)} {H : Hp} {fp : List Addr} (hf : ∀ b ∈ fp, FpOk X pins H b) : ∀ b ∈ fp, (b ∈ X.ex ∨ X.s₀.heap.objs.size ≤ b) ∧ b ≠ X.env.locals ∧ (∀ x c, X.env.cells.lookup x = some c → c ≠ b) ∧ ∀ p ∈ X.pn ++ pins, p.1 ≠ b :=
  fun b hb => let ⟨_, f1, _, f3, f4, f5⟩ := hf b hb; ⟨f3, f1, f4, f5⟩

theorem pe_comp {wi : TI} (hc : X.calm = true) (hcap : capB X.env.scope X.N sc N' cap = true) (hi : PI X tg iter wi) (hg : ∀ C s₀ H₀ fp, PG (compCx X sc N' C s₀ H₀ fp) tg g) (ht : ∀ C s₀ H₀ fp, PTs (compCx X sc N' C s₀ H₀ fp) ifs tc)
    (he : ∀ C s₀ H₀ fp, PE (compCx X sc N' C s₀ H₀ fp) elt te) (hs : ∀ x, foldedSetIterable iter X.env x = pure x := by intro _; rfl) : PE X (.ListComp elt [⟨tg, iter, ifs, 0⟩] sc pos) (tComp wi cap g tc te) := by
  intro pins s σ H Q I h
  have c : CapOk X sc N' cap := capB_ok hcap
  rw [eval_ListComp]
  refine wpAny_comprehension_free (use := none) rfl hs (closure_ok (c.cells I.ok)) c.kind c.locals (thn (hi pins s σ H _ I h) fun v s1 h1 => thn h1 fun itv s2 h2 => ?_)
  obtain ⟨it, fp, tn, J, H2, e, I2, T, st2, f2, hW⟩ := h2
  subst e
  refine comp_block (RR := fun acc C => compPost (model X.prog X.w) X.A X.xe none (EP X pins σ Q) acc C) (Q := fun D H' => Q (.ref D) H') c hc hg ht he I2 T st2 f2 hW ?_
  intro D C s' H' m' hD hC hos hbare hun hok hn hHC hCf q
  refine ⟨m', hn, fun h' hsb => ?_⟩
  have I3 : Inv X pins σ H' s' := I2.call' hos hun hok hbare (Inv.fpCh f2)
  have f3 : FpOk X pins H' C := I2.fpOk hC hHC
  obtain ⟨_, k1, _, k3, k4, k5⟩ := f3
  have I4 : Inv X pins σ H' { s' with heap := h' } := I3.turned (t' := s'.toks) (fun b o hb e => (hsb.2 b hb).trans e) hHC k1 k3 k4 k5
  exact ⟨.ref D, H', I4, rfl, q⟩


end


section
variable {g : TG} {tc : TT} {te : TE} {D : Addr} {Q : Hp → Prop} {τ : St} {H : Hp}
theorem comp_list {K : PySem.W.Frag} {a : Addr} {xs : List V} (Pv : Nat → List V → St → Hp → Prop) (h0 : Pv 0 [] τ H) (hl : ∀ i ys τ H, i ≤ xs.length → Pv i ys τ H → SqL K H a xs)
    (hs : ∀ i x ys τ H, xs[i]? = some x → Pv i ys τ H → g x τ H fun τ2 H2 => tc τ2 H2 fun b H3 => if b = true then te τ2 H3 fun y H4 => H4 D = some (.lst ys) ∧ ys.length < sizeLine ∧ Pv (i + 1) (ys ++ [y]) τ2 (upd H4 D (.lst (ys ++ [y]))) else Pv (i + 1) ys τ2 H3)
    (hd : ∀ ys τ H, Pv xs.length ys τ H → Q H) : RunC (Itl K a) g tc te D Q τ H := by
  refine ⟨fun i m ys τ H => m = xs.length - i ∧ i ≤ xs.length ∧ Pv i ys τ H, ⟨xs.length, by simp, Nat.zero_le _, h0⟩, ?_⟩
  rintro i m ys τ H ⟨rfl, hi, p⟩
  have q := hl i ys τ H hi p
  by_cases hlt : i < xs.length
  · refine .inr ⟨⟨xs, xs[i], q, by simp [hlt]⟩, Pv (i + 1), fun ys' τ' H' p' => ⟨xs.length - (i + 1), by omega, rfl, hlt, p'⟩, fun x H' y => ?_⟩
    obtain ⟨e, y⟩ := y
    subst e
    exact hs i x ys τ _ (y xs q) p
  · have e : i = xs.length := by omega
    subst e
    exact .inl ⟨⟨xs, q, Nat.le_refl _⟩, hd ys τ H p⟩
theorem comp_range {lo : Int} {n : Nat} (Pv : Nat → List V → St → Hp → Prop) (h0 : Pv 0 [] τ H)
    (hs : ∀ i ys τ H, i < n → Pv i ys τ H → g (.int (lo + i)) τ H fun τ2 H2 => tc τ2 H2 fun b H3 => if b = true then te τ2 H3 fun y H4 => H4 D = some (.lst ys) ∧ ys.length < sizeLine ∧ Pv (i + 1) (ys ++ [y]) τ2 (upd H4 D (.lst (ys ++ [y]))) else Pv (i + 1) ys τ2 H3)
    (hd : ∀ ys τ H, Pv n ys τ H → Q H) : RunC (Itr lo n) g tc te D Q τ H := by
  refine ⟨fun i m ys τ H => m = n - i ∧ i ≤ n ∧ Pv i ys τ H, ⟨n, by simp, Nat.zero_le _, h0⟩, ?_⟩
  rintro i m ys τ H ⟨rfl, hi, p⟩
  by_cases hlt : i < n
  · refine .inr ⟨hlt, Pv (i + 1), fun ys' τ' H' p' => ⟨n - (i + 1), by omega, rfl, hlt, p'⟩, fun x H' y => ?_⟩
    obtain ⟨e, y⟩ := y
    subst e y
    exact hs i ys τ _ hlt p
  · have e : i = n := by omega
    subst e
    exact .inl ⟨Nat.le_refl _, hd ys τ H p⟩
end
end L2

set_option Elab.async false
set_option linter.all false
set_option maxRecDepth 100000
set_option maxHeartbeats 4000000

namespace L2
open PySem PySem.Spec PyProof.Rows PySem.SeqAt

inductive D where
  | non | bl (b : Bool) | int (i : Int) | str (x : Str) | tup (ds : List D) | lst (ds : List D)

mutual
def Rep (K : PySem.W.Frag) (H : Hp) : V → D → Prop
  | v, .non => v = .non
  | v, .bl b => v = .bl b
  | v, .int i => v = .int i
  | v, .str x => v = .str x
  | v, .tup ds => ∃ a vs, v = .ref a ∧ SqT K H a vs ∧ Reps K H vs ds
  | v, .lst ds => ∃ a vs, v = .ref a ∧ SqL K H a vs ∧ Reps K H vs ds
def Reps (K : PySem.W.Frag) (H : Hp) : List V → List D → Prop
  | vs, [] => vs = []
  | vs, d :: ds => ∃ v r, vs = v :: r ∧ Rep K H v d ∧ Reps K H r ds
end
mutual
def imm : D → Bool
  | .lst _ => false
  | .tup ds => imms ds
  | _ => true
def imms : List D → Bool
  | [] => true
  | d :: ds => imm d && imms ds
end
mutual
def dep : D → Nat
  | .lst ds => deps ds + 1
  | .tup ds => deps ds + 1
  | _ => 0
def deps : List D → Nat
  | [] => 0
  | d :: ds => max (dep d) (deps ds)
end
mutual
def eqD : D → D → Bool
  | .non, .non => true
  | .bl a, .bl b => a == b
  | .bl a, .int b => (if a then 1 else 0) == b
  | .int a, .bl b => a == (if b then 1 else 0)
  | .int a, .int b => a == b
  | .str a, .str b => a == b
  | .tup a, .tup b => eqDs a b
  | .lst a, .lst b => eqDs a b
  | _, _ => false
def eqDs : List D → List D → Bool
  | [], [] => true
  | a :: r, b :: q => eqD a b && eqDs r q
  | _, _ => false
end
mutual
theorem eqD_refl (d : D) : eqD d d = true := by
  cases d with
  | non => rfl
  | bl b => simp [eqD]
  | int b => simp [eqD]
  | str b => simp [eqD]
  | tup ds => simp only [eqD]; exact eqDs_refl ds
  | lst ds => simp only [eqD]; exact eqDs_refl ds
theorem eqDs_refl (ds : List D) : eqDs ds ds = true := by
  cases ds with
  | nil => rfl
  | cons d r => simp only [eqDs, Bool.and_eq_true]; exact ⟨eqD_refl d, eqDs_refl r⟩
end
theorem eqDs_len : ∀ {a b : List D}, eqDs a b = true → a.length = b.length
  | [], [], _ => rfl
  | [], _ :: _, h => by simp [eqDs] at h
  | _ :: _, [], h => by simp [eqDs] at h
  | x :: a, y :: b, h => by
    simp only [eqDs, Bool.and_eq_true] at h
    rw [List.length_cons, List.length_cons, eqDs_len h.2]
theorem eqDs_all : ∀ (a b : List D), a.length = b.length → eqDs a b = (List.range a.length).all fun j => match a[j]?, b[j]? with | some x, some y => eqD x y | _, _ => true
  | [], [], _ => by simp [eqDs]
  | [], _ :: _, h => by simp at h
  | _ :: _, [], h => by simp at h
  | x :: a, y :: b, h => by
    have h' : a.length = b.length := by simpa using h
    rw [List.length_cons, List.range_succ_eq_map, List.all_cons, List.all_map]
    simp only [eqDs, eqDs_all a b h']
    congr 1


structure TSame (H H' : Hp) : Prop where
  tup : ∀ b xs, H b = some (.tup xs) → H' b = some (.tup xs)
  frz : ∀ b o u, H b = some (.frz o u) → H' b = some (.frz o u)
section
variable {K : PySem.W.Frag} {H H' H1 H2 : Hp} {a l p : Addr} {xs : List V} {o : HO}
theorem TSame.refl : TSame H H := ⟨fun _ _ h => h, fun _ _ _ h => h⟩
theorem TSame.trans (x : TSame H H1) (y : TSame H1 H2) : TSame H H2 := ⟨fun b xs h => y.tup b xs (x.tup b xs h), fun b o u h => y.frz b o u (x.frz b o u h)⟩
theorem Same.t (x : Same H H') : TSame H H' := ⟨fun b xs h => x b _ h, fun b o u h => x b _ h⟩
theorem TSame.new (h : H l = none) : TSame H (upd H l o) := ⟨fun b xs e => by rw [upd_ne (ne_of_none e h)]; exact e, fun b ob u e => by rw [upd_ne (ne_of_none e h)]; exact e⟩
theorem TSame.lst (h : H l = some (.lst xs)) : TSame H (upd H l o) := ⟨fun b ys e => by rw [upd_ne (ne_of e h (by intro z; cases z))]; exact e, fun b ob u e => by rw [upd_ne (ne_of e h (by intro z; cases z))]; exact e⟩
theorem Same.new (h : H l = none) : Same H (upd H l o) := fun b u e => by rw [upd_ne (ne_of_none e h)]; exact e

theorem Same.turn (x : Same H H1) (h : H l = none) : Same H (upd H1 l o) := fun b u e => by rw [upd_ne (ne_of_none e h)]; exact x b u e
theorem SqT.t (x : TSame H H') (h : SqT K H a xs) : SqT K H' a xs := by
  rcases h with (h | ⟨o, h⟩) | h
  · exact .inl (.inl (x.tup _ _ h))
  · exact .inl (.inr ⟨o, x.frz _ _ _ h⟩)
  · exact .inr h
theorem Same.seqT (x : Same H H') (h : SqT K H a xs) : SqT K H' a xs := h.t x.t
theorem SqL.up (h : SqL K H a xs) (hn : H l = none ∨ (∃ ys, H l = some (.tup ys))) : SqL K (upd H l o) a xs := by
  rcases h with (h | ⟨o, h⟩) | h
  · refine .inl (.inl ?_)
    rw [upd_ne]
    · exact h
    · rcases hn with z | ⟨ys, z⟩
      · exact ne_of_none h z
      · exact ne_of h z (by intro q; cases q)
  · refine .inl (.inr ⟨o, ?_⟩)
    rw [upd_ne]
    · exact h
    · rcases hn with z | ⟨ys, z⟩
      · exact ne_of_none h z
      · exact ne_of h z (by intro q; cases q)
  · exact .inr h
mutual
theorem Rep.t (x : TSame H H') {v : V} {d : D} (hi : imm d = true) (h : Rep K H v d) : Rep K H' v d := by
  cases d with
  | non => exact h
  | bl b => exact h
  | int i => exact h
  | str x => exact h
  | tup ds =>
    obtain ⟨a, vs, e, q, r⟩ := h
    exact ⟨a, vs, e, q.t x, Reps.t x (by simpa [imm] using hi) r⟩
  | lst ds => simp [imm] at hi
theorem Reps.t (x : TSame H H') {vs : List V} {ds : List D} (hi : imms ds = true) (h : Reps K H vs ds) : Reps K H' vs ds := by
  cases ds with
  | nil => exact h
  | cons d r =>
    obtain ⟨v, q, e, h1, h2⟩ := h
    simp only [imms, Bool.and_eq_true] at hi
    exact ⟨v, q, e, Rep.t x hi.1 h1, Reps.t x hi.2 h2⟩
end
mutual
theorem Rep.same (x : Same H H') {v : V} {d : D} (h : Rep K H v d) : Rep K H' v d := by
  cases d with
  | non => exact h
  | bl b => exact h
  | int i => exact h
  | str x => exact h
  | tup ds =>
    obtain ⟨a, vs, e, q, r⟩ := h
    exact ⟨a, vs, e, x.seqT q, Reps.same x r⟩
  | lst ds =>
    obtain ⟨a, vs, e, q, r⟩ := h
    exact ⟨a, vs, e, x.seq q, Reps.same x r⟩
theorem Reps.same (x : Same H H') {vs : List V} {ds : List D} (h : Reps K H vs ds) : Reps K H' vs ds := by
  cases ds with
  | nil => exact h
  | cons d r =>
    obtain ⟨v, q, e, h1, h2⟩ := h
    exact ⟨v, q, e, Rep.same x h1, Reps.same x h2⟩
end
theorem Reps.length : ∀ {vs : List V} {ds : List D}, Reps K H vs ds → vs.length = ds.length
  | vs, [], h => by cases (show vs = [] from h); rfl
  | vs, d :: ds, h => by
    obtain ⟨v, r, rfl, _, h2⟩ := h
    rw [List.length_cons, List.length_cons, Reps.length h2]
theorem Reps.get : ∀ {vs : List V} {ds : List D} {i : Nat} {d : D}, Reps K H vs ds → ds[i]? = some d → ∃ v, vs[i]? = some v ∧ Rep K H v d
  | vs, [], i, d, h, e => by simp at e
  | vs, d0 :: ds, 0, d, h, e => by
    obtain ⟨v, r, rfl, h1, _⟩ := h
    simp only [List.getElem?_cons_zero, Option.some.injEq] at e
    subst e
    exact ⟨v, by simp, h1⟩
  | vs, d0 :: ds, i + 1, d, h, e => by
    obtain ⟨v, r, rfl, _, h2⟩ := h
    obtain ⟨u, e1, e2⟩ := Reps.get (i := i) h2 (by simpa using e)
    exact ⟨u, by simpa using e1, e2⟩
theorem Reps.getV : ∀ {vs : List V} {ds : List D} {i : Nat} {v : V}, Reps K H vs ds → vs[i]? = some v → ∃ d, ds[i]? = some d ∧ Rep K H v d := fun {vs ds i v} h e => by
  have hl := h.length
  have hi : i < vs.length := (List.getElem?_eq_some_iff.mp e).1
  obtain ⟨d, hd⟩ : ∃ d, ds[i]? = some d := ⟨ds[i]'(by omega), by simp <;> omega⟩
  obtain ⟨u, e1, e2⟩ := h.get hd
  rw [e] at e1
  cases e1
  exact ⟨d, hd, e2⟩
theorem Reps.append : ∀ {vs ws : List V} {ds es : List D}, Reps K H vs ds → Reps K H ws es → Reps K H (vs ++ ws) (ds ++ es)
  | vs, ws, [], es, h, h' => by cases (show vs = [] from h); exact h'
  | vs, ws, d :: ds, es, h, h' => by
    obtain ⟨v, r, rfl, h1, h2⟩ := h
    exact ⟨v, r ++ ws, rfl, h1, Reps.append h2 h'⟩
theorem Reps.one {v : V} {d : D} (h : Rep K H v d) : Reps K H [v] [d] := ⟨v, [], rfl, h, rfl⟩
theorem Reps.snoc {vs : List V} {ds : List D} {v : V} {d : D} (h : Reps K H vs ds) (h' : Rep K H v d) : Reps K H (vs ++ [v]) (ds ++ [d]) := h.append (.one h')
theorem Reps.take : ∀ {vs : List V} {ds : List D} (n : Nat), Reps K H vs ds → Reps K H (vs.take n) (ds.take n)
  | vs, ds, 0, h => by simp [Reps]
  | vs, [], n + 1, h => by cases (show vs = [] from h); simp [Reps]
  | vs, d :: ds, n + 1, h => by
    obtain ⟨v, r, rfl, h1, h2⟩ := h
    exact ⟨v, r.take n, rfl, h1, Reps.take n h2⟩
theorem Reps.drop : ∀ {vs : List V} {ds : List D} (n : Nat), Reps K H vs ds → Reps K H (vs.drop n) (ds.drop n)
  | vs, ds, 0, h => h
  | vs, [], n + 1, h => by cases (show vs = [] from h); simp [Reps]
  | vs, d :: ds, n + 1, h => by
    obtain ⟨v, r, rfl, h1, h2⟩ := h
    exact Reps.drop n h2

def cutD (ds : List D) (lo hi : Option Int) : List D := (ds.drop (HT.sIx ds.length 0 lo)).take (HT.sIx ds.length ds.length hi - HT.sIx ds.length 0 lo)
def nums (ns : List Int) : List D := ns.map D.int
abbrev tI (ns : List Int) : D := .tup (nums ns)
theorem imms_nums : ∀ ns : List Int, imms (nums ns) = true
  | [] => rfl
  | n :: ns => by show (imm (.int n) && imms (nums ns)) = true; rw [imms_nums ns]; rfl
theorem imm_tI (ns : List Int) : imm (tI ns) = true := imms_nums ns
theorem reps_nums : ∀ {vs : List V} {ns : List Int}, Reps K H vs (nums ns) ↔ vs = ns.map V.int
  | vs, [] => Iff.rfl
  | vs, n :: ns => by
    constructor
    · rintro ⟨v, r, rfl, h1, h2⟩
      have h1' : v = .int n := h1
      rw [h1', reps_nums.mp h2]; rfl
    · rintro rfl
      exact ⟨.int n, ns.map V.int, rfl, rfl, reps_nums.mpr rfl⟩
end


section
variable {X : Cx} {pins : List (Addr × Obj)} {σ : St} {H : Hp} {s : Shared}
theorem notBoth (I : Inv X pins σ H s) {a : Addr} {xs ys : List V} (h : SqT X.K H a xs) (h' : SqL X.K H a ys) : False := by
  obtain ⟨its, r, ⟨o, e, c, n, d⟩, _⟩ := I.tuple h
  obtain ⟨its', r', ⟨o', n', e', c', _, d'⟩, _⟩ := I.list h'
  rw [e] at e'; cases e'
  rw [c] at c'
  have z : ("tuple" : String) = "list" := by injection c'
  exact absurd z (by decide)
mutual
theorem Rep.inj (I : Inv X pins σ H s) {v : V} {d e : D} (h : Rep X.K H v d) (h' : Rep X.K H v e) : d = e := by
  cases d with
  | non => cases (show v = .non from h); cases e <;> first | rfl | (exfalso; first | (cases (show V.non = _ from h')) | (obtain ⟨_, _, z, _⟩ := h'; cases z))
  | bl b => cases (show v = .bl b from h); cases e <;> first | (cases (show V.bl b = _ from h'); rfl) | (exfalso; first | (cases (show V.bl b = _ from h')) | (obtain ⟨_, _, z, _⟩ := h'; cases z))
  | int b => cases (show v = .int b from h); cases e <;> first | (cases (show V.int b = _ from h'); rfl) | (exfalso; first | (cases (show V.int b = _ from h')) | (obtain ⟨_, _, z, _⟩ := h'; cases z))
  | str b => cases (show v = .str b from h); cases e <;> first | (cases (show V.str b = _ from h'); rfl) | (exfalso; first | (cases (show V.str b = _ from h')) | (obtain ⟨_, _, z, _⟩ := h'; cases z))
  | tup ds =>
    obtain ⟨a, vs, rfl, q, r⟩ := h
    cases e with
    | tup es =>
      obtain ⟨b, ws, z, q', r'⟩ := h'
      cases z
      have e1 := I.tuple_inj q q'
      subst e1
      rw [Reps.inj I r r']
    | lst es =>
      obtain ⟨b, ws, z, q', r'⟩ := h'
      cases z
      exact (notBoth I q q').elim
    | non => cases (show V.ref a = _ from h')
    | bl _ => cases (show V.ref a = _ from h')
    | int _ => cases (show V.ref a = _ from h')
    | str _ => cases (show V.ref a = _ from h')
  | lst ds =>
    obtain ⟨a, vs, rfl, q, r⟩ := h
    cases e with
    | lst es =>
      obtain ⟨b, ws, z, q', r'⟩ := h'
      cases z
      have e1 := I.list_inj q q'
      subst e1
      rw [Reps.inj I r r']
    | tup es =>
      obtain ⟨b, ws, z, q', r'⟩ := h'
      cases z
      exact (notBoth I q' q).elim
    | non => cases (show V.ref a = _ from h')
    | bl _ => cases (show V.ref a = _ from h')
    | int _ => cases (show V.ref a = _ from h')
    | str _ => cases (show V.ref a = _ from h')
theorem Reps.inj (I : Inv X pins σ H s) {vs : List V} {ds es : List D} (h : Reps X.K H vs ds) (h' : Reps X.K H vs es) : ds = es := by
  cases ds with
  | nil =>
    cases (show vs = [] from h)
    cases es with
    | nil => rfl
    | cons e es => obtain ⟨_, _, z, _⟩ := h'; cases z
  | cons d ds =>
    obtain ⟨v, r, rfl, h1, h2⟩ := h
    cases es with
    | nil => cases (show v :: r = [] from h')
    | cons e es =>
      obtain ⟨v', r', z, h1', h2'⟩ := h'
      cases z
      rw [Rep.inj I h1 h1', Reps.inj I h2 h2']
end


def EqD (X : Cx) (H : Hp) (s : Shared) (d : D) : Prop := ∀ (A : Around) (x y : V) (u v : Value) (e : D), A.units + dep d < cLine → Rep X.K H x d → Rep X.K H y e → RelV x u → RelV y v → RcAt A s u v (eqD d e) ∧ EqAt A s u v (eqD d e)
theorem seq_eq (I : Inv X pins σ H s) {ds es : List D} {vs ws : List V} {us us' : List Value} {A : Around} (hu : A.units + deps ds < cLine) (r : Reps X.K H vs ds) (r' : Reps X.K H ws es) (rv : Vals vs us) (rv' : Vals ws us')
    (ih : ∀ d ∈ ds, EqD X H s d) (hdm : ∀ d ∈ ds, dep d ≤ deps ds) : ∀ j (h1 : j < us.toArray.size) (h2 : j < us'.toArray.size), EqAt A s us.toArray[j] us'.toArray[j] (match ds[j]?, es[j]? with | some x, some y => eqD x y | _, _ => true) := by
  intro j h1 h2
  have l1 := r.length
  have l2 := r'.length
  have l3 := rv.length
  have l4 := rv'.length
  have h1' : j < us.length := by simpa using h1
  have h2' : j < us'.length := by simpa using h2
  have e1 : ds[j]? = some (ds[j]'(by omega)) := by simp <;> omega
  have e2 : es[j]? = some (es[j]'(by omega)) := by simp <;> omega
  obtain ⟨v, ev, rd⟩ := r.get e1
  obtain ⟨w, ew, re⟩ := r'.get e2
  obtain ⟨u, eu, ru⟩ := rv.get ev
  obtain ⟨u', eu', ru'⟩ := rv'.get ew
  have f1 : us.toArray[j] = u := by
    have : us[j]? = some us[j] := by simp
    rw [eu] at this
    have := (Option.some.inj this).symm
    simpa using this
  have f2 : us'.toArray[j] = u' := by
    have : us'[j]? = some us'[j] := by simp
    rw [eu'] at this
    have := (Option.some.inj this).symm
    simpa using this
  rw [f1, f2, e1, e2]
  have hm : ds[j]'(by omega) ∈ ds := List.getElem_mem _
  exact (ih _ hm A v w u u' _ (by have := hdm _ hm; omega) rd re ru ru').2
theorem deps_le : ∀ {ds : List D} {d : D}, d ∈ ds → dep d ≤ deps ds
  | d0 :: ds, d, h => by
    simp only [deps]
    rcases List.mem_cons.mp h with rfl | h
    · omega
    · have := deps_le h; omega
theorem range_min {a b : List D} (h : ¬ a.length = b.length) : eqDs a b = false := by
  cases q : eqDs a b with
  | false => rfl
  | true => exact absurd (eqDs_len q) h
mutual
theorem eqD_ok (I : Inv X pins σ H s) (d : D) : EqD X H s d := by
  intro A x y u v e hu hx hy rx ry
  cases d with
  | non =>
    cases (show x = .non from hx)
    cases (show u = Value.none from rx)
    cases e with
    | non => cases (show y = .non from hy); cases (show v = Value.none from ry); exact ⟨.none_none, .same _⟩
    | bl b => cases (show y = .bl b from hy); cases (show v = Value.bool b from ry); exact ⟨.none_bool b, .none_bool b⟩
    | int i => cases (show y = .int i from hy); obtain ⟨t, rfl⟩ := ry; exact ⟨.none_int i t, .none_int i t⟩
    | str z => cases (show y = .str z from hy); obtain ⟨t, rfl⟩ := ry; exact ⟨.none_str z t, .none_str z t⟩
    | tup es => obtain ⟨a, vs, rfl, q, r⟩ := hy; cases ry; obtain ⟨its, _, p, _⟩ := I.tuple q; exact ⟨.none_tuple p (by omega), .none_tuple p (by omega)⟩
    | lst es => obtain ⟨a, vs, rfl, q, r⟩ := hy; cases ry; obtain ⟨its, _, p, _⟩ := I.list q; exact ⟨.none_list p.isList (by omega), .none_list p.isList (by omega)⟩
  | bl c =>
    cases (show x = .bl c from hx)
    cases (show u = Value.bool c from rx)
    cases e with
    | non => cases (show y = .non from hy); cases (show v = Value.none from ry); exact ⟨.bool_none c, .bool_none c⟩
    | bl b => cases (show y = .bl b from hy); cases (show v = Value.bool b from ry); exact ⟨.bool_bool c b, .bool_bool c b⟩
    | int i => cases (show y = .int i from hy); obtain ⟨t, rfl⟩ := ry; exact ⟨.bool_int c i t, .bool_int c i t⟩
    | str z => cases (show y = .str z from hy); obtain ⟨t, rfl⟩ := ry; exact ⟨.bool_str c z t, .bool_str c z t⟩
    | tup es => obtain ⟨a, vs, rfl, q, r⟩ := hy; cases ry; obtain ⟨its, _, p, _⟩ := I.tuple q; exact ⟨.bool_tuple c p (by omega), .bool_tuple c p (by omega)⟩
    | lst es => obtain ⟨a, vs, rfl, q, r⟩ := hy; cases ry; obtain ⟨its, _, p, _⟩ := I.list q; exact ⟨.bool_list c p.isList (by omega), .bool_list c p.isList (by omega)⟩
  | int c =>
    cases (show x = .int c from hx)
    obtain ⟨t, rfl⟩ := rx
    cases e with
    | non => cases (show y = .non from hy); cases (show v = Value.none from ry); exact ⟨.int_none c t, .int_none c t⟩
    | bl b => cases (show y = .bl b from hy); cases (show v = Value.bool b from ry); exact ⟨.int_bool c t b, .int_bool c t b⟩
    | int i => cases (show y = .int i from hy); obtain ⟨t', rfl⟩ := ry; exact ⟨.int_int c t i t', .int_int c t i t'⟩
    | str z => cases (show y = .str z from hy); obtain ⟨t', rfl⟩ := ry; exact ⟨.int_str c t z t', .int_str c t z t'⟩
    | tup es => obtain ⟨a, vs, rfl, q, r⟩ := hy; cases ry; obtain ⟨its, _, p, _⟩ := I.tuple q; exact ⟨.int_tuple c t p (by omega), .int_tuple c t p (by omega)⟩
    | lst es => obtain ⟨a, vs, rfl, q, r⟩ := hy; cases ry; obtain ⟨its, _, p, _⟩ := I.list q; exact ⟨.int_list c t p.isList (by omega), .int_list c t p.isList (by omega)⟩
  | str c =>
    cases (show x = .str c from hx)
    obtain ⟨t, rfl⟩ := rx
    cases e with
    | non => cases (show y = .non from hy); cases (show v = Value.none from ry); exact ⟨.str_none c t, .str_none c t⟩
    | bl b => cases (show y = .bl b from hy); cases (show v = Value.bool b from ry); exact ⟨.str_bool c t b, .str_bool c t b⟩
    | int i => cases (show y = .int i from hy); obtain ⟨t', rfl⟩ := ry; exact ⟨.str_int c t i t', .str_int c t i t'⟩
    | str z => cases (show y = .str z from hy); obtain ⟨t', rfl⟩ := ry; exact ⟨.str_str c t z t', .str_str c t z t'⟩
    | tup es => obtain ⟨a, vs, rfl, q, r⟩ := hy; cases ry; obtain ⟨its, _, p, _⟩ := I.tuple q; exact ⟨.str_tuple c t p (by omega), .str_tuple c t p (by omega)⟩
    | lst es => obtain ⟨a, vs, rfl, q, r⟩ := hy; cases ry; obtain ⟨its, _, p, _⟩ := I.list q; exact ⟨.str_list c t p.isList (by omega), .str_list c t p.isList (by omega)⟩
  | tup ds =>
    have hx' := hx
    obtain ⟨a, vs, rfl, q, r⟩ := hx
    cases rx
    obtain ⟨its, rv, p, _⟩ := I.tuple q
    have hu' : A.units + 1 + deps ds < cLine := by simp only [dep] at hu; omega
    cases e with
    | non => cases (show y = .non from hy); cases (show v = Value.none from ry); exact ⟨.tuple_none p (by omega), .tuple_none p (by omega)⟩
    | bl b => cases (show y = .bl b from hy); cases (show v = Value.bool b from ry); exact ⟨.tuple_bool b p (by omega), .tuple_bool b p (by omega)⟩
    | int i => cases (show y = .int i from hy); obtain ⟨t', rfl⟩ := ry; exact ⟨.tuple_int i t' p (by omega), .tuple_int i t' p (by omega)⟩
    | str z => cases (show y = .str z from hy); obtain ⟨t', rfl⟩ := ry; exact ⟨.tuple_str z t' p (by omega), .tuple_str z t' p (by omega)⟩
    | lst es => obtain ⟨b, ws, rfl, q', r'⟩ := hy; cases ry; obtain ⟨its', _, p', _⟩ := I.list q'; exact ⟨.tuple_list p p'.isList (by omega), .tuple_list p p'.isList (by omega)⟩
    | tup es =>
      have hy' := hy
      obtain ⟨b, ws, rfl, q', r'⟩ := hy
      cases ry
      obtain ⟨its', rv', p', _⟩ := I.tuple q'
      have main : RcAt A s (.ref a) (.ref b) (eqD (.tup ds) (.tup es)) := by
        have := RcAt.tuples (A := A) p p' (by omega) (seq_eq I (A := A.in1) (by show A.units + 1 + deps ds < cLine; omega) r r' rv rv' (eqDs_ok I ds) fun d h => deps_le h)
        have l1 := r.length
        have l2 := r'.length
        have l3 := rv.length
        have l4 := rv'.length
        have e1 : its.toArray.size = ds.length := by simp <;> omega
        have e2 : its'.toArray.size = es.length := by simp <;> omega
        rw [e1, e2] at this
        simp only [eqD]
        by_cases hl : ds.length = es.length
        · rw [eqDs_all ds es hl]
          rw [← hl, Nat.min_self] at this
          simpa using this
        · rw [range_min hl]
          have z : (ds.length == es.length) = false := by simpa using hl
          rw [z, Bool.and_false] at this
          exact this
      refine ⟨main, ?_⟩
      by_cases hab : a = b
      · subst hab
        have e3 : D.tup ds = D.tup es := Rep.inj I hx' hy'
        rw [e3, eqD_refl]
        exact .same _
      · exact .of_refs hab main
  | lst ds =>
    have hx' := hx
    obtain ⟨a, vs, rfl, q, r⟩ := hx
    cases rx
    obtain ⟨its, rv, p, _⟩ := I.list q
    have hu' : A.units + 1 + deps ds < cLine := by simp only [dep] at hu; omega
    cases e with
    | non => cases (show y = .non from hy); cases (show v = Value.none from ry); exact ⟨.list_none p.isList (by omega), .list_none p.isList (by omega)⟩
    | bl b => cases (show y = .bl b from hy); cases (show v = Value.bool b from ry); exact ⟨.list_bool b p.isList (by omega), .list_bool b p.isList (by omega)⟩
    | int i => cases (show y = .int i from hy); obtain ⟨t', rfl⟩ := ry; exact ⟨.list_int i t' p.isList (by omega), .list_int i t' p.isList (by omega)⟩
    | str z => cases (show y = .str z from hy); obtain ⟨t', rfl⟩ := ry; exact ⟨.list_str z t' p.isList (by omega), .list_str z t' p.isList (by omega)⟩
    | tup es => obtain ⟨b, ws, rfl, q', r'⟩ := hy; cases ry; obtain ⟨its', _, p', _⟩ := I.tuple q'; exact ⟨.list_tuple p.isList p' (by omega), .list_tuple p.isList p' (by omega)⟩
    | lst es =>
      have hy' := hy
      obtain ⟨b, ws, rfl, q', r'⟩ := hy
      cases ry
      obtain ⟨its', rv', p', _⟩ := I.list q'
      have main : RcAt A s (.ref a) (.ref b) (eqD (.lst ds) (.lst es)) := by
        have l1 := r.length
        have l2 := r'.length
        have l3 := rv.length
        have l4 := rv'.length
        have e1 : its.toArray.size = ds.length := by simp <;> omega
        have e2 : its'.toArray.size = es.length := by simp <;> omega
        simp only [eqD]
        by_cases hl : ds.length = es.length
        · have := RcAt.lists (A := A) p.isList p'.isList (by omega) (by omega) (seq_eq I (A := A.in1) (by show A.units + 1 + deps ds < cLine; omega) r r' rv rv' (eqDs_ok I ds) fun d h => deps_le h)
          rw [e1] at this
          rw [eqDs_all ds es hl]
          exact this
        · rw [range_min hl]
          exact RcAt.lists_lengths p.isList p'.isList (by simpa [e1, e2] using hl) (by omega)
      refine ⟨main, ?_⟩
      by_cases hab : a = b
      · subst hab
        have e3 : D.lst ds = D.lst es := Rep.inj I hx' hy'
        rw [e3, eqD_refl]
        exact .same _
      · exact .of_refs hab main
theorem eqDs_ok (I : Inv X pins σ H s) (ds : List D) : ∀ d ∈ ds, EqD X H s d := by
  cases ds with
  | nil => exact fun _ h => nomatch h
  | cons d0 r =>
    intro d h
    rcases List.mem_cons.mp h with e | h
    · exact e ▸ eqD_ok I d0
    · exact eqDs_ok I r d h
end

def rEqD (K : PySem.W.Frag) (n : Nat) : R2 := fun x y H Q => ∃ d e, Rep K H x d ∧ Rep K H y e ∧ dep d ≤ n ∧ Q (.bl (eqD d e)) H
theorem op_eqD {n : Nat} (hu : X.A.units + n < cLine) : OpR X (compareOp .Eq) (rEqD X.K n) := by
  intro pins s σ H x y v u Q I rx ry h
  obtain ⟨d, e, hd, he, hn, q⟩ := h
  exact (eqD_ok I d X.A x y v u e (by omega) hd he rx ry).1 X.prog X.w X.xe _ ⟨.bl (eqD d e), H, I, rfl, q⟩
end
end L2

set_option Elab.async false
set_option linter.all false
set_option maxRecDepth 100000
set_option maxHeartbeats 4000000
namespace L2
open PySem PySem.Spec PyProof.Rows PySem.SeqAt

section
variable {X : Cx}



noncomputable def eqF (X : Cx) (H : Hp) (d : D) (u : Value) : Bool := @decide (∃ v e, RelV v u ∧ Rep X.K H v e ∧ eqD e d = true) (Classical.propDecidable _)
def SeqD (K : PySem.W.Frag) (H : Hp) (y : V) (ds : List D) : Prop := Rep K H y (.lst ds) ∨ Rep K H y (.tup ds)
def rInD (K : PySem.W.Frag) (n : Nat) (neg : Bool) : R2 := fun x y H Q => ∃ d ds, Rep K H x d ∧ SeqD K H y ds ∧ deps ds + 1 ≤ n ∧ Q (.bl (if neg then !(ds.any fun e => eqD e d) else ds.any fun e => eqD e d)) H
def rIndex (K : PySem.W.Frag) (n : Nat) : V → List V → Hp → VK → Prop := fun x vs H Q => ∃ ds y d j, vs = [y] ∧ Rep K H x (.lst ds) ∧ Rep K H y d ∧ deps ds + 1 ≤ n ∧ ds.findIdx? (fun e => eqD e d) = some j ∧ Q (.int (j : Nat)) H
def NeD (X : Cx) (H : Hp) : Prop := True
def rNeD (K : PySem.W.Frag) (n : Nat) : R2 := fun x y H Q => ∃ d e, Rep K H x d ∧ Rep K H y e ∧ dep d ≤ n ∧ Q (.bl (!eqD d e)) H
theorem op_neD {n : Nat} (hu : X.A.units + n < cLine) : OpR X (compareOp .NotEq) (rNeD X.K n) := by
  intro pins s σ H x y v u Q I rx ry h
  obtain ⟨d, e, hd, he, hn, q⟩ := h
  have fin : EP X pins σ Q (.bool (!eqD d e)) s := ⟨.bl (!eqD d e), H, I, rfl, q⟩
  have go : ∀ {k : Bool}, RcNeAt X.A s v u k → k = (!eqD d e) → wpAny (model X.prog X.w) X.A (compareOp .NotEq v u) (EP X pins σ Q) X.xe s := fun h1 h2 => by
    subst h2
    exact h1 X.prog X.w X.xe _ fin
  cases d with
  | non =>
    cases (show x = .non from hd)
    cases (show v = Value.none from rx)
    cases e with
    | non => cases (show y = .non from he); cases (show u = Value.none from ry); exact go .none_none rfl
    | bl b => cases (show y = .bl b from he); cases (show u = Value.bool b from ry); exact go (.none_bool b) rfl
    | int i => cases (show y = .int i from he); obtain ⟨t, rfl⟩ := ry; exact go (.none_int i t) rfl
    | str z => cases (show y = .str z from he); obtain ⟨t, rfl⟩ := ry; exact go (.none_str z t) rfl
    | tup es => obtain ⟨a, vs, rfl, q, r⟩ := he; cases ry; obtain ⟨its, _, p, _⟩ := I.tuple q; exact go (.none_tuple p (by omega)) rfl
    | lst es => obtain ⟨a, vs, rfl, q, r⟩ := he; cases ry; obtain ⟨its, _, p, _⟩ := I.list q; exact go (.none_list p.isList (by omega)) rfl
  | bl c =>
    cases (show x = .bl c from hd)
    cases (show v = Value.bool c from rx)
    cases e with
    | non => cases (show y = .non from he); cases (show u = Value.none from ry); exact go (.bool_none c) rfl
    | bl b => cases (show y = .bl b from he); cases (show u = Value.bool b from ry); exact go (.bool_bool c b) rfl
    | int i => cases (show y = .int i from he); obtain ⟨t, rfl⟩ := ry; exact go (.bool_int c i t) rfl
    | str z => cases (show y = .str z from he); obtain ⟨t, rfl⟩ := ry; exact go (.bool_str c z t) rfl
    | tup es => obtain ⟨a, vs, rfl, q, r⟩ := he; cases ry; obtain ⟨its, _, p, _⟩ := I.tuple q; exact go (.bool_tuple c p (by omega)) rfl
    | lst es => obtain ⟨a, vs, rfl, q, r⟩ := he; cases ry; obtain ⟨its, _, p, _⟩ := I.list q; exact go (.bool_list c p.isList (by omega)) rfl
  | int c =>
    cases (show x = .int c from hd)
    obtain ⟨t, rfl⟩ := rx
    cases e with
    | non => cases (show y = .non from he); cases (show u = Value.none from ry); exact go (.int_none c t) rfl
    | bl b => cases (show y = .bl b from he); cases (show u = Value.bool b from ry); exact go (.int_bool c t b) rfl
    | int i => cases (show y = .int i from he); obtain ⟨t', rfl⟩ := ry; exact go (.int_int c t i t') rfl
    | str z => cases (show y = .str z from he); obtain ⟨t', rfl⟩ := ry; exact go (.int_str c t z t') rfl
    | tup es => obtain ⟨a, vs, rfl, q, r⟩ := he; cases ry; obtain ⟨its, _, p, _⟩ := I.tuple q; exact go (.int_tuple c t p (by omega)) rfl
    | lst es => obtain ⟨a, vs, rfl, q, r⟩ := he; cases ry; obtain ⟨its, _, p, _⟩ := I.list q; exact go (.int_list c t p.isList (by omega)) rfl
  | str c =>
    cases (show x = .str c from hd)
    obtain ⟨t, rfl⟩ := rx
    cases e with
    | non => cases (show y = .non from he); cases (show u = Value.none from ry); exact go (.str_none c t) rfl
    | bl b => cases (show y = .bl b from he); cases (show u = Value.bool b from ry); exact go (.str_bool c t b) rfl
    | int i => cases (show y = .int i from he); obtain ⟨t', rfl⟩ := ry; exact go (.str_int c t i t') rfl
    | str z => cases (show y = .str z from he); obtain ⟨t', rfl⟩ := ry; exact go (.str_str c t z t') rfl
    | tup es => obtain ⟨a, vs, rfl, q, r⟩ := he; cases ry; obtain ⟨its, _, p, _⟩ := I.tuple q; exact go (.str_tuple c t p (by omega)) rfl
    | lst es => obtain ⟨a, vs, rfl, q, r⟩ := he; cases ry; obtain ⟨its, _, p, _⟩ := I.list q; exact go (.str_list c t p.isList (by omega)) rfl
  | tup ds =>
    obtain ⟨a, vs, rfl, q1, r⟩ := hd
    cases rx
    obtain ⟨its, rv, p, _⟩ := I.tuple q1
    have hu' : X.A.units + 1 + deps ds < cLine := by simp only [dep] at hn; omega
    cases e with
    | non => cases (show y = .non from he); cases (show u = Value.none from ry); exact go (.tuple_none p (by omega)) rfl
    | bl b => cases (show y = .bl b from he); cases (show u = Value.bool b from ry); exact go (.tuple_bool b p (by omega)) rfl
    | int i => cases (show y = .int i from he); obtain ⟨t', rfl⟩ := ry; exact go (.tuple_int i t' p (by omega)) rfl
    | str z => cases (show y = .str z from he); obtain ⟨t', rfl⟩ := ry; exact go (.tuple_str z t' p (by omega)) rfl
    | lst es => obtain ⟨b, ws, rfl, q', r'⟩ := he; cases ry; obtain ⟨its', _, p', _⟩ := I.list q'; exact go (.tuple_list p p'.isList (by omega)) rfl
    | tup es =>
      obtain ⟨b, ws, rfl, q', r'⟩ := he
      cases ry
      obtain ⟨its', rv', p', _⟩ := I.tuple q'
      refine go (RcNeAt.tuples p p' (by omega) (seq_eq I (A := X.A.in1) (by show X.A.units + 1 + deps ds < cLine; omega) r r' rv rv' (eqDs_ok I ds) fun d h => deps_le h)) ?_
      have l1 := r.length
      have l2 := r'.length
      have l3 := rv.length
      have l4 := rv'.length
      have e1 : its.toArray.size = ds.length := by simp <;> omega
      have e2 : its'.toArray.size = es.length := by simp <;> omega
      rw [e1, e2]
      simp only [eqD]
      by_cases hl : ds.length = es.length
      · rw [eqDs_all ds es hl, ← hl, Nat.min_self]
        simp
      · rw [range_min hl]
        have z : (ds.length == es.length) = false := by simpa using hl
        rw [z, Bool.and_false]
  | lst ds =>
    obtain ⟨a, vs, rfl, q1, r⟩ := hd
    cases rx
    obtain ⟨its, rv, p, _⟩ := I.list q1
    have hu' : X.A.units + 1 + deps ds < cLine := by simp only [dep] at hn; omega
    cases e with
    | non => cases (show y = .non from he); cases (show u = Value.none from ry); exact go (.list_none p.isList (by omega)) rfl
    | bl b => cases (show y = .bl b from he); cases (show u = Value.bool b from ry); exact go (.list_bool b p.isList (by omega)) rfl
    | int i => cases (show y = .int i from he); obtain ⟨t', rfl⟩ := ry; exact go (.list_int i t' p.isList (by omega)) rfl
    | str z => cases (show y = .str z from he); obtain ⟨t', rfl⟩ := ry; exact go (.list_str z t' p.isList (by omega)) rfl
    | tup es => obtain ⟨b, ws, rfl, q', r'⟩ := he; cases ry; obtain ⟨its', _, p', _⟩ := I.tuple q'; exact go (.list_tuple p.isList p' (by omega)) rfl
    | lst es =>
      obtain ⟨b, ws, rfl, q', r'⟩ := he
      cases ry
      obtain ⟨its', rv', p', _⟩ := I.list q'
      have l1 := r.length
      have l2 := r'.length
      have l3 := rv.length
      have l4 := rv'.length
      have e1 : its.toArray.size = ds.length := by simp <;> omega
      have e2 : its'.toArray.size = es.length := by simp <;> omega
      by_cases hl : ds.length = es.length
      · refine go (RcNeAt.lists p.isList p'.isList (by omega) (by omega) (seq_eq I (A := X.A.in1) (by show X.A.units + 1 + deps ds < cLine; omega) r r' rv rv' (eqDs_ok I ds) fun d h => deps_le h)) ?_
        rw [e1]
        simp only [eqD]
        rw [eqDs_all ds es hl]
      · refine go (RcNeAt.lists_lengths p.isList p'.isList (by simpa [e1, e2] using hl) (by omega)) ?_
        simp only [eqD]
        rw [range_min hl]
        rfl


def isD (n : String) : D → Bool
  | .non => false
  | .bl _ => n == "int" || n == "bool"
  | .int _ => n == "int"
  | .str _ => n == "str"
  | .tup _ => n == "tuple"
  | .lst _ => n == "list"
def tyD : D → String
  | .non => "NoneType"
  | .bl _ => "bool"
  | .int _ => "int"
  | .str _ => "str"
  | .tup _ => "tuple"
  | .lst _ => "list"
theorem kit_ok {K : PySem.W.Frag} {n : String} {d : D} (hn : n = "int" ∨ n = "bool" ∨ n = "str" ∨ n = "tuple" ∨ n = "list" ∨ n = "dict") : PySem.W.kitOne K (.type (tyD d)) (.type n) = some (isD n d) := by
  rcases hn with rfl | rfl | rfl | rfl | rfl | rfl <;> cases d <;> (unfold PySem.W.kitOne PySem.W.kitCls PySem.W.subIn tyD isD; first | rfl | decide +kernel)
theorem call_isinst : CallR X (.builtin "isinstance") (fun xs H Q => ∃ x n d, xs = [x, .ty n] ∧ (n = "int" ∨ n = "bool" ∨ n = "str" ∨ n = "tuple" ∨ n = "list" ∨ n = "dict") ∧ Rep X.K H x d ∧ Q (.bl (isD n d)) H) := by
  intro pins s σ H xs us Q I r h
  obtain ⟨x, n, d, rfl, hn, hx, q⟩ := h
  obtain ⟨u, v, rfl, rx, rt⟩ := vals2 r
  cases rt
  have k := kit_ok (K := X.K) (d := d) hn
  have fin : ∀ tk, EP X pins σ Q (.bool (isD n d)) { s with toks := tk } := fun tk => ⟨.bl (isD n d), H, I.tok tk, rfl, q⟩
  cases d with
  | non => cases (show x = .non from hx); cases (show u = Value.none from rx); exact PySem.W.kia_one PySem.W.kitx_none I.kIn True.intro k (fun z => nomatch z) fin
  | bl b => cases (show x = .bl b from hx); cases (show u = Value.bool b from rx); exact PySem.W.kia_one PySem.W.kitx_bool I.kIn True.intro k (fun z => nomatch z) fin
  | int b => cases (show x = .int b from hx); obtain ⟨t, rfl⟩ := rx; exact PySem.W.kia_one PySem.W.kitx_int I.kIn True.intro k (fun z => nomatch z) fin
  | str b => cases (show x = .str b from hx); obtain ⟨t, rfl⟩ := rx; exact PySem.W.kia_one PySem.W.kitx_str I.kIn True.intro k (fun z => nomatch z) fin
  | tup ds =>
    obtain ⟨a, vs, rfl, hq, _⟩ := hx
    cases rx
    obtain ⟨its, _, ⟨o, e, c, _⟩, _⟩ := I.tuple hq
    exact PySem.W.kia_one PySem.W.kitx_tuple I.kIn ⟨o, e, c⟩ k (fun z => nomatch z) fin
  | lst ds =>
    obtain ⟨a, vs, rfl, hq, _⟩ := hx
    cases rx
    obtain ⟨its, _, ⟨o, _, e, c, _⟩, _⟩ := I.list hq
    exact PySem.W.kia_one PySem.W.kitx_list I.kIn ⟨o, e, c⟩ k (fun z => nomatch z) fin


def rCatW (K : PySem.W.Frag) : R2 := fun x y H Q => ∃ a b xs ys, x = .ref a ∧ y = .ref b ∧ SqT K H a xs ∧ SqT K H b ys ∧ xs.length + ys.length ≤ sizeLine ∧ ∀ p H', Same H H' → SqT K H' p (xs ++ ys) → Q (.ref p) H'
def rSlTW (K : PySem.W.Frag) : V → Option Int → Option Int → Hp → VK → Prop := fun x lo hi H Q => ∃ a xs, x = .ref a ∧ SqT K H a xs ∧
  ¬ (HT.sIx xs.length 0 lo = 0 ∧ HT.sIx xs.length xs.length hi = xs.length) ∧ ∀ p H', Same H H' → SqT K H' p (cutV xs lo hi) → Q (.ref p) H'
def rCatLW (K : PySem.W.Frag) : R2 := fun x y H Q => ∃ l b xs zs, x = .ref l ∧ y = .ref b ∧ SqL K H l xs ∧ SqL K H b zs ∧ xs.length + zs.length ≤ sizeLine ∧ ∀ p, H p = none → Q (.ref p) (upd H p (.lst (xs ++ zs)))
theorem op_catLW : OpR X (binaryOp .Add) (rCatLW X.K) := by
  intro pins s σ H x y v u Q I rx ry h
  obtain ⟨l, b, xs, zs, rfl, rfl, hl, hb, hz, q⟩ := h
  cases rx
  cases ry
  obtain ⟨its, r1, p1, _⟩ := I.list hl
  obtain ⟨its2, r2, p2, _⟩ := I.list hb
  obtain ⟨⟨cls, dd, data, sl⟩, n, ho, hc, hdd, hd⟩ := id p1
  obtain ⟨⟨cls2, dd2, data2, sl2⟩, n2, ho2, hc2, hdd2, hd2⟩ := id p2
  simp only at hc hd hc2 hd2
  subst hc hd hc2 hd2
  refine concat_meets ⟨_, ho, rfl⟩ ⟨_, ho2, rfl⟩ noFill_list_add seq_list_add PySem.F.slot_list_add PySem.F.entry_list_add (PySem.F.args_list_add_2 _ _)
    (list_addW l b its.toArray its2.toArray n n2 dd dd2 sl sl2 (by rw [List.size_toArray, List.size_toArray, ← r1.length, ← r2.length]; exact hz)) ⟨ho, ho2, ?_⟩
  rw [show its.toArray ++ its2.toArray = (its ++ its2).toArray by simp]
  exact ⟨.ref s.heap.objs.size, _, I.lnew (t' := s.toks) (r1.append r2) (by rw [List.length_append]; exact hz), rfl, q _ I.fresh⟩


theorem call_allB (hc : X.calm = true) : CallR X (.builtin "all") (fun xs H Q => ∃ (p : Addr) (bs : List Bool), xs = [.ref p] ∧ SqL X.K H p (bs.map V.bl) ∧ Q (.bl (bs.all id)) H) := by
  intro pins s σ H xs us Q I r h
  obtain ⟨p, bs, rfl, hq, q⟩ := h
  obtain ⟨u, rfl, ru⟩ := vals1 r
  cases ru
  obtain ⟨its, rv, pl, hz⟩ := I.list hq
  have hh : X.A.handled = none := I.ok.hd hc
  have rel : ∀ (i : Nat) (v : Value), its.toArray[i]? = some v → ∃ b, bs[i]? = some b ∧ v = .bool b := fun i v e => by
    have e' : its[i]? = some v := by simpa using e
    have hlt : i < its.length := (List.getElem?_eq_some_iff.mp e').1
    have l1 := rv.length
    rw [List.length_map] at l1
    have hb : bs[i]? = some (bs[i]'(by omega)) := by simp <;> omega
    obtain ⟨u, hu, ru⟩ := rv.get (i := i) (x := V.bl (bs[i]'(by omega))) (by rw [List.getElem?_map, hb]; rfl)
    rw [e'] at hu
    cases hu
    exact ⟨_, hb, ru⟩
  refine call_all_walk (wpAny_pyIter_list pl.isList ?_)
  refine ⟨s.heap.objs.size, [s.heap.objs.size, p], [s.heap.objs.size], its.toArray.size, _, _, fun i => (bs[i]?).getD true, rfl, Walks.list (show X.A.in1.handled = none from hh) s.heap.objs.size p ?_ its.toArray, ⟨⟨_, Heap.get?_push_size _ rfl, rfl, rfl⟩, ?_⟩, ?_, fun h' tk k => ?_⟩
  · obtain ⟨o, _, ho, _⟩ := pl
    exact Nat.ne_of_lt (Heap.lt_size ho)
  · exact pl.isList.at fun o e => Heap.get?_push_of_some _ e
  · intro i v s' Q' E' hv hQ
    obtain ⟨b, hb, rfl⟩ := rel i v hv
    dsimp only at hQ
    rw [hb] at hQ
    exact wpAny_truthy_bool hQ
  · have e : (List.range its.toArray.size).all (fun i => (bs[i]?).getD true) = bs.all id := by
      have l1 := rv.length
      rw [List.length_map] at l1
      rw [List.size_toArray, ← l1]
      rw [Bool.eq_iff_iff, List.all_eq_true, List.all_eq_true]
      constructor
      · intro hx b hb
        obtain ⟨i, hi⟩ := List.getElem?_of_mem hb
        have := hx i (List.mem_range.mpr (List.getElem?_eq_some_iff.mp hi).1)
        rw [hi] at this
        exact this
      · intro hx i hi
        have hlt := List.mem_range.mp hi
        have hb : bs[i]? = some bs[i] := by simp
        rw [hb]
        exact hx _ (List.getElem_mem _)
    rw [e]
    have I1 : Inv X pins σ H { s with heap := h', toks := tk } := I.kept (fun b o e => k b o (by simp; exact Nat.ne_of_lt (Heap.lt_size e)) (Heap.get?_push_of_some _ e))
    exact ⟨.bl (bs.all id), H, I1, rfl, q⟩
end


structure Has (P : Program) (w : World) (K : PySem.W.Frag) (mg : Str → Option Value) (base : Heap) (x : Str) (ps : List Str) (k : Nat) (sp : Sp) : Prop where
  ex : ∃ (f : Addr) (fd : FuncData), mg x = some (.ref f) ∧ PySem.W.keepIn K (.ref f) = true ∧ Binds K fd ps [] ∧ FnOk P w K mg base CX0 k f fd ps sp
theorem Has.mono {P : Program} {w : World} {K : PySem.W.Frag} {mg : Str → Option Value} {base : Heap} {x : Str} {ps : List Str} {j k : Nat} {sp : Sp} (h : Has P w K mg base x ps j sp) (hk : j ≤ k) : Has P w K mg base x ps k sp := by
  obtain ⟨f, fd, h1, h2, h3, h4⟩ := h.ex
  exact ⟨f, fd, h1, h2, h3, h4.mono hk⟩
section
variable {X : Cx} {x : Str} {ps : List Str} {j k : Nat} {sp : Sp} {p pos : Pos} {e : Expr} {es : List Expr} {t : TA}
theorem pe_callH (h : Has X.prog X.w X.K X.mg X.base x ps j sp) (hr : Room k X.A) (hg : Gl X x) (ha : PA X (e :: es) t) (hk : j ≤ k := by decide) (hdb : (x == ("__debug__" : Str)) = false := by decide)
    (he : starEach (e :: es) X.env = (false, eval e X.env) :: starEach es X.env := by rfl) (hpl : (backTo pos (starEach es X.env)).any (·.1) = false := by rfl) : PE X (.Call (.Name x p) (e :: es) [] pos) (tCall sp [] E0 t) := by
  obtain ⟨f, fd, h1, h2, h3, h4⟩ := h.ex
  exact pe_call h4 (hr.mono hk) hg h1 h2 h3 .nil pass0 ha hdb he hpl
end

theorem boot_intT : bootBuiltins "int" = some (.type "int") := by decide +kernel
theorem boot_boolT : bootBuiltins "bool" = some (.type "bool") := by decide +kernel
theorem boot_strT : bootBuiltins "str" = some (.type "str") := by decide +kernel
theorem boot_tupleT : bootBuiltins "tuple" = some (.type "tuple") := by decide +kernel
theorem boot_listT : bootBuiltins "list" = some (.type "list") := by decide +kernel
theorem boot_maxB : bootBuiltins "max" = some (.builtin "max") := by decide +kernel
theorem boot_allB : bootBuiltins "all" = some (.builtin "all") := by decide +kernel
theorem boot_isinstanceB : bootBuiltins "isinstance" = some (.builtin "isinstance") := by decide +kernel
end L2

set_option Elab.async false
set_option linter.all false
namespace L2
open PySem PySem.Spec PyProof.Rows

section
variable {X : Cx} {K : PySem.W.Frag} {tg l : Expr} {tl : TE} {n : Nat}
theorem kop_catLW (hK : X.K = K := by rfl) : OpR X (binaryOp .Add) (rCatLW K) := by subst hK; exact op_catLW
theorem ksl_list (hK : X.K = K := by rfl) : SlR X (rSlL K) := by subst hK; exact sl_list
theorem kix_list (hK : X.K = K := by rfl) : IxR X (rIxL K) := by subst hK; exact ix_list
theorem kix_tup (hK : X.K = K := by rfl) : IxR X (rIxT K) := by subst hK; exact ix_tup
theorem kcall_len_seq (hK : X.K = K := by rfl) : CallR X (.builtin "len") (fun xs H Q => ∃ p ys, xs = [.ref p] ∧ (SqL K H p ys ∨ SqT K H p ys) ∧ Q (.int ys.length) H) := by subst hK; exact call_len_seq
theorem kcall_list_of (hK : X.K = K := by rfl) : CallR X (.type "list") (fun xs H Q => ∃ p ys, xs = [.ref p] ∧ (SqL K H p ys ∨ SqT K H p ys) ∧ ∀ l, H l = none → Q (.ref l) (upd H l (.lst ys))) := by subst hK; exact call_list_of
theorem kcall_isinst (hK : X.K = K := by rfl) : CallR X (.builtin "isinstance") (fun xs H Q => ∃ x n d, xs = [x, .ty n] ∧ (n = "int" ∨ n = "bool" ∨ n = "str" ∨ n = "tuple" ∨ n = "list" ∨ n = "dict") ∧ Rep K H x d ∧ Q (.bl (isD n d)) H) := by subst hK; exact call_isinst
theorem kcall_allB (hc : X.calm = true) (hK : X.K = K := by rfl) : CallR X (.builtin "all") (fun xs H Q => ∃ (p : Addr) (bs : List Bool), xs = [.ref p] ∧ SqL K H p (bs.map V.bl) ∧ Q (.bl (bs.all id)) H) := by subst hK; exact call_allB hc
theorem kop_eqD (hu : X.A.units + n < cLine) (hK : X.K = K := by rfl) : OpR X (compareOp .Eq) (rEqD K n) := by subst hK; exact op_eqD hu
theorem kop_neD (hu : X.A.units + n < cLine) (hK : X.K = K := by rfl) : OpR X (compareOp .NotEq) (rNeD K n) := by subst hK; exact op_neD hu
theorem kpi_list (hl : PE X l tl) (hK : X.K = K := by rfl) : PI X tg l (iList K tl) := by subst hK; exact pi_list hl
theorem kpi_tup (hl : PE X l tl) (hK : X.K = K := by rfl) : PI X tg l (iTup K tl) := by subst hK; exact pi_tup hl
variable {o e : Expr} {es : List Expr} {to : TE} {t : TA} {name : Str} {apos cpos : Pos} {T id : String} {r : V → List V → Hp → VK → Prop}
theorem kpe_bm (pa : PlainAttrs T) (slot : Slot T name id) (hty : typeOf (.builtin id) = pure (.type "method_descriptor")) (hm : MtR X id r) (ho : PE X o to) (ha : PA X (e :: es) t) (hK : X.K = K := by rfl)
    (hbase : attributeBase o name X.env (eval o X.env) = eval o X.env := by rfl)
    (hfew : ((backTo cpos (starEach (e :: es) X.env)).all (fun x => !x.1) && (backToKw cpos (keywordEach [] X.env)).all (fun x => x.1.isSome)
      && decide ((e :: es).length + ([] : List Keyword).length + (if ([] : List Keyword).isEmpty then 0 else 1) < 30)) = true := by rfl)
    (hline : (apos.endLine == cpos.line) = true := by rfl) (hs : starEach (e :: es) X.env = (false, eval e X.env) :: starEach es X.env := by rfl) (hplain : (backTo cpos (starEach es X.env)).any (·.1) = false := by rfl) :
    PE X (.Call (.Attribute o name apos) (e :: es) [] cpos) (tBM K T r to t) := by subst hK; exact pe_bm pa slot hty hm ho ha hbase hfew hline hs hplain
theorem kpg_tup {es : List Expr} {k : Nat} {t : TGs} {n : Nat} {pos : Pos} (hc : X.calm = true) (h : PGs X es t) (hK : X.K = K := by rfl)
    (hn : (assignEach es X.env).length = n := by rfl) (hst : (assignEach es X.env).findIdx? (·.1) = none := by rfl) : PG X (.Tuple es k pos) (gTup K n t) := by subst hK; exact pg_tup hc h hn hst
end
end L2

set_option linter.all false

namespace Hb

def facesBy (w : List Int) (fam : Int) : List (List Int) :=
  if fam = 0 then (if w.length < 2 then [] else (List.range w.length).map fun i => w.take i ++ w.drop (i + 1))
  else if w.length = 0 then []
  else if fam < 0 then (if w.length = 1 then [[], []] else w.map fun l => [l])
  else w.drop 1 :: ((List.range (w.length - 1)).map fun i => w.take i ++ [(w.getD i 0 + w.getD (i + 1) 0) % fam] ++ w.drop (i + 2)) ++ [w.take (w.length - 1)]


def Word (fam : Int) (w : List Int) : Prop :=
  (fam = 0 ∧ 1 ≤ w.length ∧ w.length ≤ 4) ∨ (fam < 0 ∧ (w.length = 0 ∨ w.length = 1 ∨ w.length = 3)) ∨ (0 < fam ∧ w.length ≤ 3)
def lv (fam : Int) (w : List Int) : Nat := if fam = 0 then w.length - 1 else if fam < 0 then (if w.length = 3 then 2 else w.length) else w.length


section
variable {fam : Int}
end


def lev (p : List Int) : Nat := p.length - 1

structure Fits (xs : List (List Int)) (p : List Int) : Prop where
  cnt : p.length = 0 ∨ p.length = 2 ∨ p.length = 3 ∨ p.length = 4
  low : ∀ f ∈ p, 0 ≤ f
  bel : ∀ f ∈ p, ∃ q, xs[f.toNat]? = some q ∧ lev q + 1 = lev p
  agr : 3 ≤ p.length → ∀ (i j : Nat) (f g : Int) (q r : List Int), i < j → p[j]? = some f → p[i]? = some g → xs[f.toNat]? = some q → xs[g.toNat]? = some r → q[i]? = r[j - 1]?
def IsShape (xs : List (List Int)) : Prop := ∀ (k : Nat) (p : List Int), xs[k]? = some p → Fits (xs.take k) p


def Ord (fam : Int) (ws : List (List Int)) : Prop := ∀ (k : Nat) (w : List Int), ws[k]? = some w → Word fam w ∧ ∀ f ∈ facesBy w fam, f ∈ ws.take k
theorem Ord.nil {fam : Int} : Ord fam [] := fun k w h => by simp at h
theorem Ord.snoc {fam : Int} {ws : List (List Int)} {w : List Int} (h : Ord fam ws) (hw : Word fam w) (hf : ∀ f ∈ facesBy w fam, f ∈ ws) : Ord fam (ws ++ [w]) := by
  intro k v hk
  by_cases hlt : k < ws.length
  · rw [List.getElem?_append_left hlt] at hk
    rw [List.take_append_of_le_length (by omega)]
    exact h k v hk
  · have hk' : k < (ws ++ [w]).length := (List.getElem?_eq_some_iff.mp hk).1
    have e : k = ws.length := by simp at hk'; omega
    subst e
    simp at hk
    subst hk
    rw [List.take_append_of_le_length (Nat.le_refl _), List.take_length]
    exact ⟨hw, hf⟩
theorem Ord.mem {fam : Int} {ws : List (List Int)} (h : Ord fam ws) {w : List Int} (hw : w ∈ ws) : Word fam w ∧ ∀ f ∈ facesBy w fam, f ∈ ws := by
  obtain ⟨k, hk⟩ := List.getElem?_of_mem hw
  obtain ⟨h1, h2⟩ := h k w hk
  exact ⟨h1, fun f hf => List.mem_of_mem_take (h2 f hf)⟩

def addAll (ws : List (List Int)) : List (List Int) → List (List Int)
  | [] => ws
  | w :: r => addAll (if w ∈ ws then ws else ws ++ [w]) r
def addNew (ws : List (List Int)) : List (List Int) → List (List Int) → List (List Int)
  | acc, [] => acc
  | acc, f :: r => addNew ws (if f ∉ ws ∧ f ∉ acc then acc ++ [f] else acc) r
def below (ws : List (List Int)) (fam : Int) : List (List Int) → List (List Int) → List (List Int)
  | acc, [] => acc
  | acc, w :: r => below ws fam (addNew ws acc (facesBy w fam)) r
def layers (ws : List (List Int)) (fam : Int) : Nat → List (List Int) → List (List Int) → List (List Int)
  | 0, layer, rows => rows
  | n + 1, layer, rows => layers ws fam n (below ws fam [] layer) (layer ++ rows)
def wordsWith (ws : List (List Int)) (w : List Int) (fam : Int) : List (List Int) := addAll ws (layers ws fam 4 [w] [])
def idx (ws : List (List Int)) (f : List Int) : Nat := ws.findIdx (· == f)
def shapeOf (ws : List (List Int)) (fam : Int) : List (List Int) := ws.map fun w => (facesBy w fam).map fun f => (idx ws f : Int)
end Hb

set_option linter.all false
namespace Hb

def pc (xs : List (List Int)) (p : Int) : List Int := xs.getD p.toNat []
def InS (xs : List (List Int)) (p : Int) : Prop := 0 ≤ p ∧ p < (xs.length : Int)
def lastL (l : List Int) : List Int := l.drop (l.length - 1)
def corn (xs : List (List Int)) : Nat → Int → List Int
  | 0, p => [p]
  | n + 1, p => if (pc xs p).length = 0 then [p] else corn xs n ((pc xs p).getD ((pc xs p).length - 1) 0) ++ lastL (corn xs n ((pc xs p).getD 0 0))
section
variable {xs : List (List Int)}
def cor (xs : List (List Int)) (p : Int) : List Int := corn xs 3 p
end
end Hb

set_option Elab.async false
set_option linter.all false
set_option maxRecDepth 100000
set_option maxHeartbeats 4000000

namespace Hb
open PySem L2

def cellAt (ns : List Int) (k : Int) : Int := ns.getD k.toNat 0

abbrev LT (K : PySem.W.Frag) (H : Hp) (v : V) (xs : List (List Int)) : Prop := Rep K H v (.lst (xs.map tI))
abbrev TI (K : PySem.W.Frag) (H : Hp) (v : V) (ns : List Int) : Prop := Rep K H v (tI ns)

section
variable {K : PySem.W.Frag} {H H' : Hp}
theorem TI.sq {v : V} {ns : List Int} (h : TI K H v ns) : ∃ a, v = .ref a ∧ SqT K H a (ns.map V.int) := by
  obtain ⟨a, vs, e, q, r⟩ := h
  rw [reps_nums.mp r] at q
  exact ⟨a, e, q⟩
theorem TI.mk {a : Addr} {ns : List Int} (h : SqT K H a (ns.map V.int)) : TI K H (.ref a) ns := ⟨a, _, rfl, h, reps_nums.mpr rfl⟩
theorem TI.same {v : V} {ns : List Int} (s : Same H H') (h : TI K H v ns) : TI K H' v ns := Rep.same s h
theorem TI.t {v : V} {ns : List Int} (s : TSame H H') (h : TI K H v ns) : TI K H' v ns := Rep.t s (imm_tI ns) h
theorem cut_take (xs : List V) (k : Nat) : cutV xs none (some (k : Int)) = xs.take k := by
  unfold cutV
  rw [HT.sIx_none, HT.sIx_nat, Nat.sub_zero, List.drop_zero, List.take_eq_take_iff]
  omega
def SameX (B : Addr) (H H' : Hp) : Prop := ∀ b o, b ≠ B → H b = some o → H' b = some o
theorem SameX.refl (B : Addr) (H : Hp) : SameX B H H := fun _ _ _ h => h
theorem SameX.trans {B : Addr} {H H1 H2 : Hp} (a : SameX B H H1) (b : SameX B H1 H2) : SameX B H H2 := fun c o n h => b c o n (a c o n h)
theorem SameX.of {B : Addr} {H H1 : Hp} (a : Same H H1) : SameX B H H1 := fun c o _ h => a c o h
theorem SameX.upd {B : Addr} {H H1 : Hp} {o : HO} (a : SameX B H H1) : SameX B H (upd H1 B o) := fun c u n h => by rw [upd_ne n]; exact a c u n h
theorem SameX.t {B : Addr} {H H1 : Hp} {us : List V} (a : SameX B H H1) (h : H B = some (.lst us)) : TSame H H1 :=
  ⟨fun b xs e => a b _ (ne_of e h (by intro z; cases z)) e, fun b o u e => a b _ (ne_of e h (by intro z; cases z)) e⟩
theorem SameX.same {B : Addr} {H0 H H1 : Hp} (a : SameX B H H1) (s : Same H0 H) (h : H0 B = none) : Same H0 H1 := fun b o e => a b o (ne_of_none e h) (s b o e)
theorem deps_nums : ∀ ns : List Int, deps (nums ns) = 0
  | [] => rfl
  | n :: ns => by show max (dep (.int n)) (deps (nums ns)) = 0; rw [deps_nums ns]; rfl
theorem ifP {c A B : Prop} [Decidable c] (hc : c) (h : A) : if c then A else B := by rw [if_pos hc]; exact h
theorem ifN {c A B : Prop} [Decidable c] (hc : ¬ c) (h : B) : if c then A else B := by rw [if_neg hc]; exact h
theorem neI {a b : Int} (h : ¬ a = b) : (!decide (V.int a = V.int b)) = true := by simp [h]
theorem eqI {a b : Int} (h : a = b) : ¬ (!decide (V.int a = V.int b)) = true := by simp [h]
theorem isI {a b : Int} (h : a = b) : decide (V.int a = V.int b) = true := by simp [h]
theorem noI {a b : Int} (h : ¬ a = b) : ¬ decide (V.int a = V.int b) = true := by simp [h]
theorem comp_list0 {g : TG} {te : TE} {D : Addr} {Q : Hp → Prop} {τ : St} {H : Hp} {K : PySem.W.Frag} {a : Addr} {xs : List V} (Pv : Nat → List V → St → Hp → Prop) (h0 : Pv 0 [] τ H) (hl : ∀ i ys τ H, i ≤ xs.length → Pv i ys τ H → SqL K H a xs)
    (hs : ∀ i x ys τ H, xs[i]? = some x → Pv i ys τ H → g x τ H fun τ2 H2 => te τ2 H2 fun y H4 => H4 D = some (.lst ys) ∧ ys.length < sizeLine ∧ Pv (i + 1) (ys ++ [y]) τ2 (upd H4 D (.lst (ys ++ [y]))))
    (hd : ∀ ys τ H, Pv xs.length ys τ H → Q H) : RunC (Itl K a) g tYes te D Q τ H := comp_list Pv h0 hl (fun i x ys τ H e p => hs i x ys τ H e p) hd
theorem comp_range0 {g : TG} {te : TE} {D : Addr} {Q : Hp → Prop} {τ : St} {H : Hp} {lo : Int} {n : Nat} (Pv : Nat → List V → St → Hp → Prop) (h0 : Pv 0 [] τ H)
    (hs : ∀ i ys τ H, i < n → Pv i ys τ H → g (.int (lo + i)) τ H fun τ2 H2 => te τ2 H2 fun y H4 => H4 D = some (.lst ys) ∧ ys.length < sizeLine ∧ Pv (i + 1) (ys ++ [y]) τ2 (upd H4 D (.lst (ys ++ [y]))))
    (hd : ∀ ys τ H, Pv n ys τ H → Q H) : RunC (Itr lo n) g tYes te D Q τ H := comp_range Pv h0 (fun i ys τ H e p => hs i ys τ H e p) hd
theorem tSeq_cut {t u : TS} {D : Ends} {σ : St} {H : Hp} (P : St → Hp → Prop) (hu : ∀ σ' H', P σ' H' → u D σ' H') (h : (∀ σ' H', P σ' H' → u D σ' H') → tSeq t u D σ H) : tSeq t u D σ H := h hu
theorem small {n : Nat} (h : n ≤ 1000000) : n < sizeLine := Nat.lt_of_le_of_lt h (by decide)
theorem smallE {n : Nat} (h : n ≤ 1000000) : n ≤ sizeLine := Nat.le_of_lt (small h)
end
section
variable (K : PySem.W.Frag)
def sp_cell_at : Sp := fun vs H Q _ => ∃ (a : Addr) (ns : List Int) (k : Int), vs = [.ref a, .int k] ∧ SqL K H a (ns.map V.int) ∧ 0 ≤ k ∧ ns.length ≤ 63 ∧ Q (.int (cellAt ns k)) H

def sp_faces_by : Sp := fun vs H Q _ => ∃ (v : V) (w : List Int) (fam : Int), vs = [v, .int fam] ∧ TI K H v w ∧ Word fam w ∧
  ∀ (p : Addr) (us : List V) (H' : Hp), H p = none → Same H H' → H' p = some (.lst us) → Reps K H' us ((facesBy w fam).map tI) → Q (.ref p) H'
def sp_word_by : Sp := fun vs H Q _ => ∃ (c fam letters : Int), vs = [.int c, .int fam, .int letters] ∧ 0 < letters ∧ letters < 100 ∧ fam < 100 ∧
  ∀ (v : V) (H' : Hp) (w : List Int), Same H H' → TI K H' v w → Word fam w → Q v H'
def sp_words_with : Sp := fun vs H Q _ => ∃ (l : Addr) (us : List V) (v : V) (ws : List (List Int)) (w : List Int) (fam : Int), vs = [.ref l, v, .int fam] ∧ H l = some (.lst us) ∧ Reps K H us (ws.map tI) ∧ TI K H v w ∧ Word fam w ∧ ws.length ≤ 100 ∧
  ∀ (p : Addr) (us' : List V) (H' : Hp), H p = none → Same H H' → H' p = some (.lst us') → Reps K H' us' ((wordsWith ws w fam).map tI) → Q (.ref p) H'

def sp_law : Sp := fun vs H Q _ => ∃ (a : Addr) (ns : List Int), vs = [.ref a] ∧ SqL K H a (ns.map V.int) ∧ ns.length ≤ 63 ∧ ∀ H', Q (.bl true) H'
def sp_shape_by : Sp := fun vs H Q _ => ∃ (a : Addr) (ns : List Int) (kind most : Int), vs = [.int kind, .ref a, .int most] ∧ SqL K H a (ns.map V.int) ∧ ns.length ≤ 63 ∧ 0 ≤ most ∧ most ≤ 100 ∧
  ∀ (p : Addr) (us : List V) (H' : Hp) (xs : List (List Int)), H p = none → Same H H' → H' p = some (.lst us) → Reps K H' us (xs.map tI) → IsShape xs → (xs.length : Int) ≤ most → Q (.ref p) H'
end
end Hb

set_option Elab.async false
set_option linter.all false
set_option maxRecDepth 100000
set_option maxHeartbeats 4000000
namespace Hb
open PySem L2
def wholeD (d : L2.D) : Bool := isD "int" d && !isD "bool" d
def belowD (d : L2.D) (b : Int) : Bool := match d with
  | .int i => decide (0 ≤ i) && decide (i < b)
  | _ => false
def levI (n : Nat) : Int := if (0 : Int) > (n : Int) - 1 then 0 else (n : Int) - 1
def placeLev (xs : List (List Int)) (d : L2.D) (l : Int) : Bool := match d with
  | .int i => decide (0 ≤ i) && decide (i < (xs.length : Int)) && decide (levI (xs.getD i.toNat []).length = l)
  | _ => false
def agreeAt (xs : List (List Int)) (p : List Int) (j i : Nat) : Bool := decide ((xs.getD (p.getD j 0).toNat []).getD i 0 = (xs.getD (p.getD i 0).toNat []).getD (j - 1) 0)
def agreeB (xs : List (List Int)) (p : List Int) : Bool := (List.range p.length).all fun j => (List.range j).all fun i => agreeAt xs p j i
def toI : L2.D → Int
  | .int i => i
  | _ => 0
def cntB (n : Nat) : Bool := n == 0 || n == 2 || n == 3 || n == 4
def fitsD (xs : List (List Int)) (d : L2.D) : Bool := match d with
  | .tup ds => cntB ds.length && ds.all (fun e => placeLev xs e (levI ds.length - 1)) && (decide (levI ds.length < 2) || agreeB xs (ds.map toI))
  | _ => false
section
variable (K : PySem.W.Frag)
def sp_is_whole : Sp := fun vs H Q _ => ∃ (x : V) (d : L2.D), vs = [x] ∧ Rep K H x d ∧ Q (.bl (wholeD d)) H
abbrev sp_L_whole : Sp := sp_is_whole K
def sp_is_whole_below : Sp := fun vs H Q _ => ∃ (x : V) (d : L2.D) (b : Int), vs = [x, .int b] ∧ Rep K H x d ∧ Q (.bl (belowD d b)) H
def sp_level_of : Sp := fun vs H Q _ => ∃ (x : V) (ds : List L2.D), vs = [x] ∧ SeqD K H x ds ∧ Q (.int (levI ds.length)) H
def sp_is_place_of_level : Sp := fun vs H Q _ => ∃ (a : Addr) (x : V) (d : L2.D) (l : Int) (xs : List (List Int)), vs = [.ref a, x, .int l] ∧ LT K H (.ref a) xs ∧ Rep K H x d ∧ Q (.bl (placeLev xs d l)) H
def sp_faces_agree : Sp := fun vs H Q _ => ∃ (a : Addr) (v : V) (xs : List (List Int)) (p : List Int), vs = [.ref a, v] ∧ LT K H (.ref a) xs ∧ TI K H v p ∧ p.length ≤ 4 ∧
  (∀ f ∈ p, 0 ≤ f ∧ f < (xs.length : Int) ∧ (xs.getD f.toNat []).length + 1 = p.length) ∧ Q (.bl (agreeB xs p)) H
def sp_fits : Sp := fun vs H Q _ => ∃ (a : Addr) (th : V) (d : L2.D) (xs : List (List Int)), vs = [.ref a, th] ∧ LT K H (.ref a) xs ∧ Rep K H th d ∧ ∀ H', Same H H' → Q (.bl (fitsD xs d)) H'
abbrev sp_L_fits_by : Sp := sp_fits K
abbrev sp_L_cell_at : Sp := sp_cell_at K
abbrev sp_L_faces_by : Sp := sp_faces_by K
abbrev sp_L_word_by : Sp := sp_word_by K
abbrev sp_L_words_with : Sp := sp_words_with K
abbrev sp_L_shape_by : Sp := sp_shape_by K
end
section
variable {K : PySem.W.Frag} {H : Hp}
theorem wholeD_int {d : L2.D} (h : wholeD d = true) : ∃ i, d = .int i := by
  cases d <;> simp [wholeD, isD] at h
  exact ⟨_, rfl⟩

theorem LT.get {a : Addr} {xs : List (List Int)} {i : Int} (h : LT K H (.ref a) xs) (h0 : 0 ≤ i) (h1 : i < (xs.length : Int)) : ∃ us v, SqL K H a us ∧ atI us i = some v ∧ TI K H v (xs.getD i.toNat []) := by
  obtain ⟨a', us, e, hq, r⟩ := h
  cases e
  obtain ⟨j, rfl⟩ := Int.eq_ofNat_of_zero_le h0
  have hj : j < xs.length := by omega
  have e : (xs.map tI)[j]? = some (tI xs[j]) := by rw [List.getElem?_map, List.getElem?_eq_getElem hj]; rfl
  obtain ⟨v, hv, tv⟩ := r.get e
  refine ⟨us, v, hq, atI_nat hv, ?_⟩
  rw [Int.toNat_natCast, List.getD_eq_getElem?_getD, List.getElem?_eq_getElem hj]
  exact tv
theorem LT.len {a : Addr} {xs : List (List Int)} (h : LT K H (.ref a) xs) : ∃ us, SqL K H a us ∧ us.length = xs.length := by
  obtain ⟨a', us, e, hq, r⟩ := h
  cases e
  exact ⟨us, hq, by have := r.length; simpa using this⟩
theorem TI.get {v : V} {p : List Int} {i : Int} (h : TI K H v p) (h0 : 0 ≤ i) (h1 : i < (p.length : Int)) : ∃ a, v = .ref a ∧ SqT K H a (p.map V.int) ∧ atI (p.map V.int) i = some (.int (p.getD i.toNat 0)) := by
  obtain ⟨a, e, hq⟩ := h.sq
  refine ⟨a, e, hq, ?_⟩
  obtain ⟨j, rfl⟩ := Int.eq_ofNat_of_zero_le h0
  have hj : j < p.length := by omega
  refine atI_nat ?_
  rw [List.getElem?_map, List.getElem?_eq_getElem hj]
  simp [hj]
end
end Hb

set_option Elab.async false
set_option linter.all false
set_option maxRecDepth 100000
set_option maxHeartbeats 4000000

namespace L2
open PySem PySem.Spec PyProof.Rows

def compCx1 (X : Cx) (sc : Scope) (N' : List Str) (xc : Str) (C c : Addr) (s₀ : Shared) (H₀ : Hp) (fp : List Addr) : Cx where
  prog := X.prog
  w := X.w
  K := X.K
  mg := X.mg
  base := X.base
  A := X.A
  N := N'
  s₀ := s₀
  H₀ := H₀
  env := compEnvC sc ((xc, c) :: clOf X.env.cells sc.names []) C X.env
  outer := X.stack
  stack := X.stack
  ex := fp
  fn := fun x => x == xc
  calm := X.calm
  pn := []
  xe := fun _ _ => False

structure CapOk1 (X : Cx) (sc : Scope) (N' : List Str) (cap : List (Option Nat)) (xc : Str) : Prop where
  kind : sc.kind = .function
  len : cap.length = N'.length
  one : ∀ n cl, cellsFrom n sc.names cl = (xc, n) :: cl
  push : ∀ h, pushCells h sc.names = h.push { cls := .type "cell", data := .cell none }
  own : ∀ x ∈ sc.names, x.2 = NameKind.cell → x.1 = xc
  locals : ∀ x ∈ sc.names, x.2 = NameKind.local → sc.names.lookup x.1 = some NameKind.local
  free : ∀ n, (n, NameKind.free) ∈ sc.names → X.env.kindOf n = some .cell ∨ X.env.kindOf n = some .free
  slots : ∀ (i j : Nat) (x : Str), N'[i]? = some x → cap[i]? = some (some j) → x ≠ xc ∧ X.N[j]? = some x ∧ ((relabel sc X.env).names.lookup x = some .cell ∨ (relabel sc X.env).names.lookup x = some .free) ∧ Vis X.env.scope x

def capB1 (osc : Scope) (N : List Str) (sc : Scope) (N' : List Str) (cap : List (Option Nat)) (xc : Str) : Bool :=
  decide (sc.kind = .function) && decide (cap.length = N'.length) && sc.names.all (fun x => decide (x.2 = NameKind.cell → x.1 = xc)) && sc.names.all (fun x => decide (x.2 = NameKind.local → sc.names.lookup x.1 = some NameKind.local)) &&
  sc.names.all (fun x => decide (x.2 = NameKind.free → (osc.names.lookup x.1 = some .cell ∨ osc.names.lookup x.1 = some .free))) &&
  (N'.zip cap).all (fun p => match p.2 with
    | none => true
    | some j => decide (p.1 ≠ xc) && decide (N[j]? = some p.1) && decide (((sc.names.map fun (n, k) => if (k == .free && osc.kind == .function && osc.names.lookup n == some .cell) then (n, NameKind.cell) else (n, k)).lookup p.1 = some .cell) ∨
        ((sc.names.map fun (n, k) => if (k == .free && osc.kind == .function && osc.names.lookup n == some .cell) then (n, NameKind.cell) else (n, k)).lookup p.1 = some .free)) &&
      decide (osc.names.lookup p.1 = some .local ∨ osc.names.lookup p.1 = some .cell ∨ osc.names.lookup p.1 = some .free))
section
variable {X : Cx} {sc : Scope} {N' : List Str} {cap : List (Option Nat)} {xc : Str} {pins : List (Addr × Obj)} {σ : St} {H : Hp} {s : Shared} {C c : Addr} {fp : List Addr}
theorem CapOk1.cells (o : CapOk1 X sc N' cap xc) (ok : X.Ok) : ∀ n, (n, NameKind.free) ∈ sc.names → ∃ c, X.env.cells.lookup n = some c := fun n hn => ok.has n (o.free n hn)
end
section
variable {X : Cx} {sc : Scope} {N' : List Str} {cap : List (Option Nat)} {xc : Str} {tg elt iter : Expr} {ifs : List Expr} {pos : Pos} {g : TG} {tc : TT} {te : TE}
end
end L2

set_option Elab.async false
set_option linter.all false
set_option maxRecDepth 100000
set_option maxHeartbeats 4000000

namespace L2
open PySem PySem.Spec PyProof.Rows
def GoodF (f : Obj → Obj) : Prop := ∀ o, (f o).dict = o.dict ∧ (o.isFreed = false → (f o).isFreed = false)
def KeepsD {α : Type} : Sem α → Prop
  | .pure _ => True
  | .raise _ => True
  | .unsupported _ => True
  | .finish _ => True
  | .rule _ k => KeepsD (k ())
  | .at _ k => KeepsD (k ())
  | .load _ _ k => ∀ o, KeepsD (k o)
  | .update _ _ f k => GoodF f ∧ KeepsD (k ())
  | .alloc _ k => ∀ a, KeepsD (k a)
  | .loadIfAlive _ k => ∀ o, KeepsD (k o)
  | .point _ k => KeepsD (k ())
  | .register _ _ => True
  | .fresh k => ∀ t, KeepsD (k t)
  | .ask k => ∀ x, KeepsD (k x)
  | .choose _ _ k => ∀ n, KeepsD (k n)
  | .os _ _ k => ∀ r, KeepsD (k r)
  | .call _ _ _ _ _ => False
  | .handled _ k => ∀ v, KeepsD (k v)
  | .newGen _ k => ∀ n, KeepsD (k n)
  | .genState _ k => ∀ x, KeepsD (k x)
  | .resume _ _ _ _ => False
  | .yield _ _ _ _ => True
  | .stack k => ∀ x, KeepsD (k x)
  | .fork _ _ => True
  | .thread k => ∀ x, KeepsD (k x)
  | .await _ _ _ _ _ => True
theorem KeepsD.bind {α β : Type} {m : Sem α} {k : α → Sem β} (h : KeepsD m) (hk : ∀ a, KeepsD (k a)) : KeepsD (m >>= k) := by
  show KeepsD (Sem.bind m k)
  induction m with
  | pure a => exact hk a
  | rule t c ih => exact ih () h
  | «at» p c ih => exact ih () h
  | load a p c ih => exact fun o => ih o (h o)
  | update a p f c ih => exact ⟨h.1, ih () h.2⟩
  | alloc o c ih => exact fun a => ih a (h a)
  | loadIfAlive a c ih => exact fun o => ih o (h o)
  | point l c ih => exact ih () h
  | fresh c ih => exact fun o => ih o (h o)
  | ask c ih => exact fun o => ih o (h o)
  | choose s n c ih => exact fun o => ih o (h o)
  | os r l c ih => exact fun o => ih o (h o)
  | handled o c ih => exact fun o => ih o (h o)
  | newGen g c ih => exact fun o => ih o (h o)
  | genState g c ih => exact fun o => ih o (h o)
  | stack c ih => exact fun o => ih o (h o)
  | thread c ih => exact fun o => ih o (h o)
  | call c a b d e => exact False.elim h
  | resume a b c d => exact False.elim h
  | _ => trivial
def SameD (h h' : Heap) : Prop := ∀ b o, h.get? b = some o → ∃ o', h'.get? b = some o' ∧ o'.dict = o.dict
theorem SameD.refl (h : Heap) : SameD h h := fun _ o e => ⟨o, e, rfl⟩
theorem SameD.trans {h h1 h2 : Heap} (x : SameD h h1) (y : SameD h1 h2) : SameD h h2 := fun b o e => by
  obtain ⟨o1, e1, d1⟩ := x b o e
  obtain ⟨o2, e2, d2⟩ := y b o1 e1
  exact ⟨o2, e2, d2.trans d1⟩
theorem SameD.push (h : Heap) (o : Obj) : SameD h (h.push o) := fun b o' e => ⟨o', Heap.get?_push_of_some o e, rfl⟩
theorem SameD.update {h : Heap} {a : Addr} {f : Obj → Obj} (g : GoodF f) : SameD h (h.update a f) := fun b o e => by
  by_cases z : a = b
  · subst z
    exact ⟨f o, Heap.get?_update_self f e ((g o).2 (Heap.get?_some_iff.mp e).2), (g o).1⟩
  · exact ⟨o, by rw [Heap.get?_update_other _ _ z]; exact e, rfl⟩
theorem wp_keepsD {α : Type} {M : Model} {Γ : PySem.Ctx} {Q : α → Pos → Shared → Prop} {E : Value → Pos → Shared → Prop} {t : Sem α} (hk : KeepsD t) : ∀ (p : Pos) (s : Shared), Sem.wp M Γ t Q E p s →
    Sem.wp M Γ t (fun a p' s' => Q a p' s' ∧ SameD s.heap s'.heap) (fun e p' s' => E e p' s' ∧ SameD s.heap s'.heap) p s := by
  induction t with
  | pure a => intro p s h; exact ⟨h, SameD.refl _⟩
  | raise e => intro p s h; exact ⟨h, SameD.refl _⟩
  | unsupported w => intro p s h; exact h
  | finish e => intro p s h; exact h
  | rule g k ih => intro p s h; exact ih () hk _ _ h
  | «at» p' k ih => intro p s h; exact ih () hk _ _ h
  | load a q k ih => intro p s h; obtain ⟨o, e, h⟩ := h; exact ⟨o, e, ih o (hk o) _ _ h⟩
  | update a q f k ih =>
    intro p s h
    obtain ⟨e, h⟩ := h
    refine ⟨e, ?_⟩
    have := ih () hk.2 _ _ h
    exact wp_tr this (SameD.update hk.1)
  | alloc o k ih => intro p s h; exact wp_tr (ih _ (hk _) _ _ h) (SameD.push _ _)
  | loadIfAlive a k ih => intro p s h; exact ih _ (hk _) _ _ h
  | point l k ih => intro p s h; exact ih () hk _ _ h
  | register a k ih => intro p s h; exact h
  | fresh k ih => intro p s h; exact ih _ (hk _) _ _ h
  | ask k ih => intro p s h; exact ih _ (hk _) _ _ h
  | choose c n k ih => intro p s h; exact ⟨h.1, ih _ (hk _) _ _ h.2⟩
  | os r l k ih => intro p s h; exact ih _ (hk _) _ _ h
  | call c a b d k ih => exact False.elim hk
  | handled o k ih => intro p s h; exact ih _ (hk _) _ _ h
  | newGen c k ih => intro p s h; exact ih _ (hk _) _ _ h
  | genState g k ih => intro p s h; obtain ⟨x, e, h⟩ := h; exact ⟨x, e, ih _ (hk _) _ _ h⟩
  | resume a b c k ih => exact False.elim hk
  | yield a b c k ih => intro p s h; exact h
  | stack k ih => intro p s h; exact ih _ (hk _) _ _ h
  | fork c k ih => intro p s h; exact h
  | thread k ih => intro p s h; exact ih _ (hk _) _ _ h
  | await a b c d k ih => intro p s h; exact h
where
  wp_tr {α : Type} {M : Model} {Γ : PySem.Ctx} {Q : α → Pos → Shared → Prop} {E : Value → Pos → Shared → Prop} {t : Sem α} {p : Pos} {s : Shared} {h h1 : Heap}
    (x : Sem.wp M Γ t (fun a p' s' => Q a p' s' ∧ SameD h1 s'.heap) (fun e p' s' => E e p' s' ∧ SameD h1 s'.heap) p s) (y : SameD h h1) :
    Sem.wp M Γ t (fun a p' s' => Q a p' s' ∧ SameD h s'.heap) (fun e p' s' => E e p' s' ∧ SameD h s'.heap) p s :=
    Sem.wp_mono _ _ _ (fun _ _ _ z => ⟨z.1, y.trans z.2⟩) (fun _ _ _ z => ⟨z.1, y.trans z.2⟩) _ _ x
theorem wpAny_keepsD {α : Type} {M : Model} {A : Around} {Q : α → Shared → Prop} {E : Value → Shared → Prop} {t : Sem α} {s : Shared} (hk : KeepsD t) (h : wpAny M A t Q E s) :
    wpAny M A t (fun a s' => Q a s' ∧ SameD s.heap s'.heap) (fun e s' => E e s' ∧ SameD s.heap s'.heap) s := fun Γ p hi => wp_keepsD hk _ _ (h Γ p hi)
theorem kd_pure {α : Type} (a : α) : KeepsD (pure a : Sem α) := True.intro
theorem kd_un {α : Type} (w : String) : KeepsD (unsupported w : Sem α) := True.intro
theorem kd_load (a : Addr) : KeepsD (load a) := fun _ => True.intro
theorem kd_update (a : Addr) {f : Obj → Obj} (h : GoodF f) : KeepsD (update a f) := ⟨h, True.intro⟩
theorem kd_alloc (o : Obj) : KeepsD (alloc o) := fun _ => True.intro
theorem kd_stack : KeepsD stack := fun _ => True.intro
theorem goodF_fields (g : Array Value → Array Value) : GoodF (Obj.mapFields g) := fun o => by
  obtain ⟨c, d, da, sl⟩ := o
  cases da <;> exact ⟨rfl, fun h => h⟩
theorem goodF_slots (g : Obj → Array (Option Value)) : GoodF (fun o => { o with slots := g o }) := fun o => ⟨rfl, fun h => by
  obtain ⟨c, d, da, sl⟩ := o
  cases da <;> exact h⟩
theorem kd_updateField (a : Addr) (i : Nat) (v : Value) : KeepsD (updateField a i v) := by
  unfold updateField
  refine (kd_load a).bind fun o => ?_
  split
  · split
    · exact kd_update a (goodF_fields _)
    · exact kd_un _
  · exact kd_un _
theorem kd_setField (v : Value) (i : Nat) (x : Value) : KeepsD (setField v i x) := by
  unfold setField
  split
  · exact kd_updateField _ _ _
  · exact kd_un _
theorem kd_fieldsOf (v : Value) : KeepsD (fieldsOf v) := by
  unfold fieldsOf
  split
  · refine (kd_load _).bind fun o => ?_
    split
    · exact kd_pure _
    · exact kd_un _
  · exact kd_un _
theorem kd_field (v : Value) (i : Nat) : KeepsD (field v i) := by
  unfold field
  refine (kd_fieldsOf v).bind fun vs => ?_
  split
  · exact kd_pure _
  · exact kd_un _
theorem kd_setFlight (e : Value) (fr : Option Addr) : KeepsD (setFlight e fr) := by
  unfold setFlight
  refine (kd_field e 1).bind fun tb => ?_
  split
  · exact kd_setField _ _ _
  · exact kd_pure _
theorem kd_newFields (ty : String) (vs : List Value) : KeepsD (newFields ty vs) := by
  unfold newFields newObj
  dsimp only
  split
  · exact (kd_un _).bind fun _ => (kd_alloc _).bind fun _ => kd_pure _
  · exact (kd_alloc _).bind fun _ => kd_pure _
theorem kd_entryPlaceOf (f : Addr) (b : Bool) : KeepsD (entryPlaceOf f b) := by
  unfold entryPlaceOf
  refine kd_stack.bind fun acts => ?_
  split
  · exact kd_pure _
  · exact kd_pure _
theorem kd_frameEnvs : KeepsD frameEnvs := by
  unfold frameEnvs
  exact kd_stack.bind fun _ => kd_pure _
theorem kd_behind (env : Env) (outer : List Env) : KeepsD (behindIsImport env outer) := by
  unfold behindIsImport
  split
  · exact kd_pure _
  · split
    · exact kd_pure _
    · exact (kd_field _ _).bind fun _ => kd_pure _
theorem kd_claims : KeepsD underTheClaimsCaller := by
  unfold underTheClaimsCaller
  exact kd_stack.bind fun _ => kd_pure _
theorem kd_keptBack (env : Env) (i : Bool) (outer : List Env) : KeepsD (keptBack env i outer) := by
  cases outer with
  | nil =>
    rw [keptBack]
    by_cases z : (env.scope.isGenerator || env.scope.isCoroutine) = true
    · rw [if_pos z]; exact kd_pure _
    · rw [if_neg z]; exact kd_claims.bind fun _ => kd_pure _
  | cons c r => exact kd_pure _
theorem kd_readyFrames : ∀ l : List Env, KeepsD (readyFrames l)
  | [] => kd_pure _
  | env :: outer => by
    unfold readyFrames
    split
    · refine (kd_load _).bind fun o => ?_
      split
      · exact kd_pure _
      · refine (kd_behind _ _).bind fun b => (kd_keptBack _ _ _).bind fun v => (kd_update _ (goodF_slots _)).bind fun _ => kd_readyFrames outer
    · exact kd_un _
theorem kd_frameOf (env : Env) : KeepsD (PySem.frameOf env) := by
  unfold PySem.frameOf
  refine kd_frameEnvs.bind fun es => ?_
  refine KeepsD.bind ?_ fun o => ?_
  · generalize es.dropWhile _ = l
    cases l with
    | nil => exact kd_pure _
    | cons x r => exact (kd_readyFrames _).bind fun _ => kd_pure _
  · split
    · exact kd_pure _
    · exact kd_un _
theorem kd_noteFrame (e : Value) (env : Env) : KeepsD (noteFrame e env) := by
  unfold noteFrame
  cases env.frame with
  | none => exact kd_un _
  | some f =>
    have tail : ∀ head : Value, KeepsD (do let a ← PySem.frameOf env; let pl ← entryPlaceOf f (head != .none); let b ← EntryCells.newEntry head a .none (rawInt f) .none pl; setField e 1 b) := fun head =>
      KeepsD.bind (kd_frameOf env) fun a => KeepsD.bind (kd_entryPlaceOf f _) fun pl => KeepsD.bind (kd_newFields _ _) fun b => kd_setField _ _ _
    refine (kd_field e 1).bind fun head => ?_
    by_cases z : (head != Value.none) = true
    · rw [if_pos z]
      refine (kd_field head 3).bind fun x => ?_
      by_cases y : (x == rawInt f) = true
      · rw [if_pos y]; exact kd_pure _
      · rw [if_neg y]
        refine (kd_setField _ _ _).bind fun _ => ?_
        exact tail head
    · rw [if_neg z]
      exact tail head
theorem kd_leaving (env : Env) (e : Value) : KeepsD (leaving env e) := by
  unfold leaving
  exact (kd_noteFrame e env).bind fun _ => kd_setFlight e none
end L2

set_option Elab.async false
set_option linter.all false
set_option maxRecDepth 100000
set_option maxHeartbeats 4000000

namespace L2
open PySem PySem.Spec PyProof.Rows

theorem ObjOk.ob {P : Program} {w : World} {H : Hp} {h : Heap} {a : Addr} {o : HO} (x : ObjOk P w H h a o) : ∃ u, h.get? a = some u := by
  cases o with
  | lst xs => obtain ⟨_, _, _, _, e⟩ := x; exact ⟨_, e⟩
  | tup xs => obtain ⟨_, _, _, ob, e, _⟩ := x; exact ⟨_, e⟩
  | dK kvs => obtain ⟨_, _, _, _, ob, _, _, e, _⟩ := x; exact ⟨_, e⟩
  | dT kvs => obtain ⟨_, _, _, _, ob, _, _, e, _⟩ := x; exact ⟨_, e⟩
  | set S n => obtain ⟨ob, _, _, _, e, _⟩ := x; exact ⟨_, e⟩
  | ins C dx fs => obtain ⟨_, _, _, e, _⟩ := x; exact ⟨_, e⟩
  | own y => exact x
  | xd fs => obtain ⟨_, ⟨ob, _, _, e, _⟩, _⟩ := x; exact ⟨_, e⟩
  | rng lo hi => obtain ⟨_, _, _, e⟩ := x; exact ⟨_, e⟩
  | frz ob u => obtain ⟨e, _⟩ := x; exact ⟨_, e⟩
  | tbl ps => exact ⟨_, (show h.get? a = some _ from x)⟩
  | met f y => exact ⟨_, (show h.get? a = some _ from x)⟩
  | ext φ => obtain ⟨_, e, _⟩ := x; exact e


structure XUn (fs : List Addr) (H H' : Hp) (h B h' : Heap) : Prop where
  kp : ∀ b o, h.get? b = some o → H b = none → b ∉ fs → B.get? b = some o
  sl : ∀ b o, h.get? b = some o → H b = none → b ∈ fs → ∃ z, h'.get? b = some { o with slots := z }
  fr : ∀ b o, h.get? b = some o → H b = none → H' b = none
  th : ∀ b o, h.get? b = some o → b ∉ fs → ∃ z, B.get? b = some z
  tu : ∀ b xs, H b = some (.tup xs) → H' b = some (.tup xs)
  fz : ∀ b o u, H b = some (.frz o u) → H' b = some (.frz o u)
  tb : ∀ b ps, H b = some (.tbl ps) → ∃ more, H' b = some (.tbl (ps ++ more))
section
variable {fs : List Addr} {H H' : Hp} {h B h' h2 : Heap}
theorem XUn.un (x : XUn fs H H' h B h') (hB : B.StaysIn h2) (hf : ∀ b ∈ fs, H b = none) (hs : ∀ b o, h'.get? b = some o → b ∈ fs → ∃ z, h2.get? b = some { o with slots := z }) : Un fs [] H H' h h2 where
  keep := fun b o e n hb _ => hB b o (x.kp b o e n hb)
  slot := fun b o e n hb _ => by
    obtain ⟨z, e1⟩ := x.sl b o e n hb
    obtain ⟨z', e2⟩ := hs b _ e1 hb
    exact ⟨z', e2⟩
  free := fun b o e n _ => x.fr b o e n
  there := fun b o e _ => by
    by_cases hb : b ∈ fs
    · obtain ⟨z, e1⟩ := x.sl b o e (hf b hb) hb
      obtain ⟨z', e2⟩ := hs b _ e1 hb
      exact ⟨_, e2⟩
    · obtain ⟨z, e1⟩ := x.th b o e hb
      exact ⟨z, hB b z e1⟩
  tups := x.tu
  frzs := x.fz
  tbls := x.tb
theorem frames_up {l : List Env} (ff : h'.FunFrames B l) (up : h'.UpToSlots h2) : ∀ b o, h'.get? b = some o → b ∈ frs l → ∃ z, h2.get? b = some { o with slots := z } := fun b o e hb => by
  obtain ⟨_, o', e', hd⟩ := ff.mem hb
  rw [e] at e'
  cases e'
  exact up b o e hd
theorem XUn.next {l : List Env} (x : XUn (frs l) H H' h B h') (ff : h'.FunFrames B l) (up : h'.UpToSlots h2) : XUn (frs l) H H' h B h2 :=
  ⟨x.kp, fun b o e n hb => by
    obtain ⟨z, e1⟩ := x.sl b o e n hb
    obtain ⟨z', e2⟩ := frames_up ff up b _ e1 hb
    exact ⟨z', e2⟩, x.fr, x.th, x.tu, x.fz, x.tb⟩
end


def ErrD (e : Addr) (dx : Option Addr) (h : Heap) : Prop := ∃ o, h.get? e = some o ∧ o.dict = dx
theorem ErrD.go {e : Addr} {dx : Option Addr} {h h' : Heap} (x : ErrD e dx h) (k : SameD h h') : ErrD e dx h' := by
  obtain ⟨o, e1, d1⟩ := x
  obtain ⟨o', e2, d2⟩ := k e o e1
  exact ⟨o', e2, d2.trans d1⟩

def CX1 (P : Program) (w : World) : CXT := fun outer H s E u s' => ∃ (e : Addr) (cls a0 : Value) (B : Heap) (H' : Hp) (dx : Option Addr), u = .ref e ∧ s'.os = s.os ∧ AllBare s'.gens ∧ XUn (frs outer) H H' s.heap B s'.heap ∧ HOk P w H' B ∧ Heap.FlyingW B outer e cls a0 s'.heap ∧ ErrD e dx s'.heap ∧ E cls dx H'

def FlyAt (X : Cx) (pins : List (Addr × Obj)) (e : Addr) (cls a0 : Value) (dx : Option Addr) (σ : St) (H' : Hp) (s' : Shared) : Prop :=
  ∃ (B : Heap) (H : Hp) (s : Shared), Inv X pins σ H s ∧ s'.os = s.os ∧ AllBare s'.gens ∧ XUn (frs X.stack) H H' s.heap B s'.heap ∧ HOk X.prog X.w H' B ∧ Heap.FlyingW B X.stack e cls a0 s'.heap ∧ ErrD e dx s'.heap

abbrev XJ := Value → Option Addr → St → Hp → Prop
def Fly (X : Cx) (J : XJ) (u : Value) (s' : Shared) : Prop := ∃ (e : Addr) (cls a0 : Value) (dx : Option Addr) (σ : St) (H' : Hp), u = .ref e ∧ FlyAt X [] e cls a0 dx σ H' s' ∧ J cls dx σ H'
def Flies (X : Cx) (J : XJ) : Prop := ∀ u s', Fly X J u s' → X.xe u s'
def Makes (X : Cx) (J : XJ) : Prop := ∀ (pins : List (Addr × Obj)) (σ : St) (H : Hp) (s : Shared) (e : Addr) (cls : Value) (vs : List Value) (h' : Heap), Inv X pins σ H s → Heap.MadeExcOf s.heap h' e cls vs → J cls none σ H → X.xe (.ref e) { s with heap := h' }


def excO (e : Addr) (cls : Value) : HO := .ext fun h => ∃ o vs, h.get? e = some o ∧ o.cls = cls ∧ o.data = .fields vs


def excX (e : Addr) (cls : Value) : Option Addr → HO
  | none => excO e cls
  | some d => .ext fun h => ∃ o vs, h.get? e = some o ∧ o.cls = cls ∧ o.data = .fields vs ∧ o.dict = some d
section
variable {X : Cx} {pins : List (Addr × Obj)} {σ : St} {H H' : Hp} {s s' : Shared} {e : Addr} {cls a0 : Value} {dx : Option Addr}
theorem Inv.nopin (I : Inv X pins σ H s) : Inv X [] σ H s := I.pins_of (fun p hp => nomatch hp)
theorem FlyAt.step {B : Heap} {h2 : Heap} {S : Shared} (I : Inv X pins σ H S) (q1 : s'.os = S.os) (q2 : AllBare s'.gens) (q3 : XUn (frs X.stack) H H' S.heap B s'.heap) (q4 : HOk X.prog X.w H' B) (q5 : Heap.FlyingW B X.stack e cls a0 s'.heap)
    (f : Heap.FlyingW B X.stack e cls a0 h2) (up : s'.heap.UpToSlots h2) (d : ErrD e dx h2) : FlyAt X pins e cls a0 dx σ H' { s' with heap := h2 } :=
  ⟨B, H, S, I, q1, q2, q3.next q5.2.2.1 up, q4, f, d⟩

theorem FlyAt.apart {B : Heap} {S : Shared} (q3 : XUn (frs X.stack) H H' S.heap B s'.heap) (q5 : Heap.FlyingW B X.stack e cls a0 s'.heap) : S.heap.get? e = none := by
  cases z : S.heap.get? e with
  | none => rfl
  | some o =>
    by_cases hb : e ∈ frs X.stack
    · obtain ⟨_, o', e1, hd⟩ := q5.2.2.1.mem hb
      obtain ⟨oe, vs, e2, _, d2, _⟩ := q5.first
      rw [e1] at e2
      cases e2
      exact absurd d2 (hd vs)
    · obtain ⟨o', e1⟩ := q3.th e o z hb
      have e2 := q5.2.1
      rw [e1] at e2
      cases e2
theorem HOk.none_of {P : Program} {w : World} {B : Heap} (q : HOk P w H' B) (z : B.get? e = none) : H' e = none := by
  cases y : H' e with
  | none => rfl
  | some o =>
    obtain ⟨u, e1⟩ := (q e o y).ob
    rw [e1] at z
    cases z
theorem FlyAt.inv (F : FlyAt X pins e cls a0 dx σ H' s') : Inv X pins σ H' s' ∧ H' e = none := by
  obtain ⟨B, H, S, I, q1, q2, q3, q4, q5, _⟩ := F
  exact ⟨I.call' (ch := []) q1 (q3.un q5.1 I.stkFree fun b o e1 _ => ⟨o.slots, e1⟩) (q4.kept q5.1) q2 (fun b z => absurd z (by simp)), q4.none_of q5.2.1⟩

theorem FlyAt.held (F : FlyAt X pins e cls a0 dx σ H' s') : Inv X pins σ (upd H' e (excX e cls dx)) s' ∧ H' e = none := by
  obtain ⟨B, H, S, I, q1, q2, q3, q4, q5, dE⟩ := F
  have hn := q4.none_of q5.2.1
  have ha := FlyAt.apart q3 q5
  have ne : ∀ b u, H' b = some u → b ≠ e := fun b u y => ne_of_none y hn
  have q6 : XUn (frs X.stack) H (upd H' e (excX e cls dx)) S.heap B s'.heap :=
    ⟨q3.kp, q3.sl, fun b o e1 n => by
      have : b ≠ e := fun z => by rw [z, ha] at e1; cases e1
      rw [upd_ne this]
      exact q3.fr b o e1 n, q3.th, fun b xs y => by
      have y' := q3.tu b xs y
      rw [upd_ne (ne b _ y')]
      exact y', fun b o u y => by
      have y' := q3.fz b o u y
      rw [upd_ne (ne b _ y')]
      exact y', fun b ps y => by
      obtain ⟨more, y'⟩ := q3.tb b ps y
      exact ⟨more, by rw [upd_ne (ne b _ y')]; exact y'⟩⟩
  refine ⟨I.call' (ch := []) q1 (q6.un q5.1 I.stkFree fun b o e1 _ => ⟨o.slots, e1⟩) (fun b u y => ?_) q2 (fun b z => absurd z (by simp)), hn⟩
  have hk := q4.kept q5.1
  by_cases hb : b = e
  · subst hb
    rw [upd_same] at y
    cases y
    obtain ⟨oe, vs, e2, c2, d2, _⟩ := q5.first
    obtain ⟨o3, e3, d3⟩ := dE
    rw [e2] at e3
    cases e3
    cases dx with
    | none => exact ⟨⟨oe, vs, e2, c2, d2⟩, ⟨oe, e2⟩, fun h1 h2 ⟨o, ws, a1, a2, a3⟩ k => ⟨o, ws, k o a1, a2, a3⟩⟩
    | some d => exact ⟨⟨oe, vs, e2, c2, d2, d3⟩, ⟨oe, e2⟩, fun h1 h2 ⟨o, ws, a1, a2, a3, a4⟩ k => ⟨o, ws, k o a1, a2, a3, a4⟩⟩
  · rw [upd_ne hb] at y
    exact (hk b u y).stay (fun _ _ _ q => q) (fun c q => by rw [upd_ne (ne c _ q)]; exact q) fun c xs q => by rw [upd_ne (ne c _ q)]; exact q
end


section
variable {P : Program} {w : World} {K : PySem.W.Frag} {mg : Str → Option Value} {base : Heap} {N : List Str} {qual : Str} {scope : Scope} {f : Addr} {cd : Value} {A : Around} {outer : List Env} {s : Shared} {H : Hp} {E : XK}
theorem frs_def : frs (envOfC qual scope s.heap.objs.size f cd :: outer) = s.heap.objs.size :: frs outer := rfl
theorem makes_def : Makes (cxOf (CX1 P w) P w K mg base N qual scope f cd A outer s H E) (fun cls dx _ H' => E cls dx H') := by
  intro pins σ H1 s1 e cls vs h' I hx hj
  have fin : ∀ env ∈ (envOfC qual scope s.heap.objs.size f cd :: outer), ∀ b, env.frame = some b → b ∈ frs (envOfC qual scope s.heap.objs.size f cd :: outer) := fun env he b hb => List.mem_filterMap.mpr ⟨env, he, hb⟩
  have old : ∀ b o, s.heap.get? b = some o → b ∉ frs outer → b ∉ frs (envOfC qual scope s.heap.objs.size f cd :: outer) := fun b o e1 hb z => by
    rw [frs_def] at z
    rcases List.mem_cons.mp z with y | y
    · exact absurd (Heap.lt_size e1) (by rw [y]; exact Nat.lt_irrefl _)
    · exact hb y
  have nx : ∀ b : Addr, b ∉ ([] : List Addr) := fun b => by simp
  have fr1 : ∀ b ∈ frs (envOfC qual scope s.heap.objs.size f cd :: outer), H1 b = none := I.stkFree
  show wpAny (model P w) (A.deeper (envOfC qual scope s.heap.objs.size f cd)) (leaving (envOfC qual scope s.heap.objs.size f cd) (.ref e)) _ _ { s1 with heap := h' }
  have dE : ErrD e none h' := by
    obtain ⟨_, _, t0, hget, _⟩ := hx
    exact ⟨_, hget, rfl⟩
  refine wpAny_mono (wpAny_keepsD (kd_leaving _ _) (wpAny_leaves_madeW (E := fun _ _ => False) (Q := fun _ s2 => ∃ h2 t, s2 = { s1 with heap := h2 } ∧ Heap.FlyingW (PySem.W.hideAll s1.heap (frs (envOfC qual scope s.heap.objs.size f cd :: outer))) outer e cls (.ref t) h2 ∧ h'.UpToSlots h2) (L := s.heap.objs.size) (base := PySem.W.hideAll s1.heap (frs (envOfC qual scope s.heap.objs.size f cd :: outer))) (h := s1.heap) I.ok.frames rfl (fun b o q => PySem.W.of_hideAll _ q) (PySem.W.funFrames_hide I.stack fin) hx fun h2 t x1 x2 x3 x4 => ⟨h2, t, rfl, x1, x4⟩)) (fun _ s2 ⟨⟨h2, t, e2, x1, x4⟩, kd⟩ => ?_) (fun _ _ z => z.1.elim)
  subst e2
  refine ⟨e, cls, .ref t, _, H1, none, rfl, I.os, I.bare, ⟨fun b o e1 n hb => ?_, fun b o e1 n hb => ?_, fun b o e1 n => I.base.free b o e1 n (nx b), fun b o e1 hb => ?_, I.base.tups, I.base.frzs, I.base.tbls⟩, ?_, x1, dE.go kd, hj⟩
  · exact PySem.W.hideAll_get _ (I.base.keep b o e1 n hb (nx b)) (old b o e1 hb)
  · obtain ⟨z, e2⟩ := I.base.slot b o e1 n hb (nx b)
    obtain ⟨_, o', e3, hd⟩ := I.ok.funs.mem hb
    have e3' : s.heap.get? b = some o' := e3
    rw [e1] at e3'
    cases e3'
    obtain ⟨z2, e4⟩ := x4 b _ (hx.keeps b _ e2) hd
    exact ⟨z2, e4⟩
  · obtain ⟨o', e2⟩ := I.base.there b o e1 (nx b)
    exact ⟨o', PySem.W.hideAll_get _ e2 (old b o e1 hb)⟩
  · intro a u y
    refine (I.hok a u y).stay (fun b v hb q => PySem.W.hideAll_get _ q fun hm => ?_) (fun _ q => q) fun _ _ q => q
    have z := fr1 b hm
    rcases hb with rfl | hb
    · rw [y] at z; cases z
    · rw [hb] at z; cases z

theorem Fun.okX {x : Str} {st : Stmt} {fd : FuncData} {ps : List Str} {k : Nat} {sp : Sp} (F : Fun K x qual st f fd) (S : FnScope N ps (defScope st)) (len : ∀ vs H Q E, sp vs H Q E → vs.length = ps.length)
    (hbody : ∀ (cdv : Value) (A : Around) (outer : List Env) (s : Shared) (H : Hp) (vs : List V) (Q : VK) (E : XK), Room k (A.deeper (envOfC qual (defScope st) s.heap.objs.size f cdv)) → sp vs H Q E →
      ∃ t, PSs (cxOf (CX1 P w) P w K mg base N qual (defScope st) f cdv A outer s H E) (defBody st) t ∧ t { nx := fun _ H' => Q .non H', rt := Q } (start N vs) H) : FnOk P w K mg base (CX1 P w) (k + 1) f fd ps sp := by
  obtain ⟨oc, od, kV, doc, pm, an, cdv, ct, osl, rfl, lk, hcd⟩ := F.ex
  exact fn_of lk hcd S len fun A outer s H vs Q E hr hsp => hbody cdv A outer s H vs Q E hr hsp
end
structure HasX (P : Program) (w : World) (K : PySem.W.Frag) (mg : Str → Option Value) (base : Heap) (x : Str) (ps : List Str) (k : Nat) (sp : Sp) : Prop where
  ex : ∃ (f : Addr) (fd : FuncData), mg x = some (.ref f) ∧ PySem.W.keepIn K (.ref f) = true ∧ Binds K fd ps [] ∧ FnOk P w K mg base (CX1 P w) k f fd ps sp

def tCallX (sp : Sp) (J : XJ) (t : TA) : TE := fun σ H Q => t σ H fun vs H1 => sp vs H1 Q (fun cls dx H2 => J cls dx σ H2)
section
variable {X : Cx} {J : XJ} {x : Str} {ps : List Str} {j k : Nat} {sp : Sp} {p pos : Pos} {e : Expr} {es : List Expr} {t : TA}
theorem run_fnX {pins : List (Addr × Obj)} {σ : St} {H : Hp} {s : Shared} {Q : VK} {us : List Value} {vs : List V} {f : Addr} {fd : FuncData} (F : FnOk X.prog X.w X.K X.mg X.base (CX1 X.prog X.w) k f fd ps sp) (hr : Room k X.A) (hb : Binds X.K fd ps []) (hx : Flies X J)
    (I : Inv X pins σ H s) (r : Vals vs us) (h : sp vs H Q (fun cls dx H2 => J cls dx σ H2)) : wpAny (model X.prog X.w) X.A (call (.ref f) us) (EP X pins σ Q) X.xe s := by
  have hl : us.length = ps.length := by rw [← r.length]; exact F.len _ _ _ _ h
  have hb1 := hb s us I.kIn (by rw [List.append_nil]; exact hl)
  rw [List.append_nil] at hb1
  refine wpAny_call (codeAny_mono (F.run X.A X.stack s H ⟨us, []⟩ us vs Q _ hr I.env0 hb1 r h) fun q s' hq => ?_)
  cases q with
  | error u =>
    obtain ⟨e, cls, a0, B, H', dx, rfl, q1, q2, q3, q4, q5, dE, q6⟩ := hq
    exact hx _ _ ⟨e, cls, a0, dx, σ, H', rfl, ⟨B, H, s, I.nopin, q1, q2, q3, q4, q5, dE⟩, q6⟩
  | ok fl =>
    cases fl with
    | ret u => exact I.after hq
    | next => exact False.elim hq
    | brk => exact False.elim hq
    | cont => exact False.elim hq
end


abbrev bmV : List Value := [.type "ValueError", .type "Exception", .type "BaseException", .type "object"]
theorem own_obj {K : PySem.W.Frag} {h : Heap} {C : Addr} {bmB : List Value} {nid : String} (X : K.In h) (z : PySem.W.excIn K C bmB nid = true) :
    ∃ bm N nm q bs hdct sn sub ab col dd k0 k1 k2 k3 k5 mN, h.get? C = some (excClassObj nm q C N bs bm hdct sn sub ab col dd k0 k1 k2 k3 k5 nid) ∧ h.Ns N mN ∧ mN "__init__" = none ∧ OwnTail h bmB bm := by
  unfold PySem.W.excIn at z
  split at z
  case h_2 => cases z
  case h_1 dd cd sl ho =>
    split at z
    case h_2 => cases z
    case h_1 C' bm k0 k1 k2 k3 n k5 hm hs =>
      rw [Bool.and_eq_true, Bool.and_eq_true, Bool.and_eq_true, Bool.and_eq_true, Bool.and_eq_true, beq_iff_eq, beq_iff_eq, Bool.not_eq_true', beq_iff_eq] at z
      obtain ⟨⟨⟨⟨⟨z1, z2⟩, z3⟩, z4⟩, z5⟩, z6⟩ := z
      obtain ⟨nm, bs, mro, ns, qn, hd, sn, sub, ab, col, del⟩ := cd
      have hm' : mro = .ref C' :: bm := hm
      have z3' : del = false := z3
      subst hm' z3' z1 z2
      have hsl : sl = #[k0, k1, k2, k3, some (.builtin n), k5] := by
        cases sl with
        | mk l =>
          have : l = [k0, k1, k2, k3, some (.builtin n), k5] := hs
          rw [this]
      subst hsl
      exact ⟨bm, ns, nm, qn, bs, hd, sn, sub, ab, col, dd, k0, k1, k2, k3, k5, _, X _ _ ho, .of_isNs (PySem.W.isNs_of_in X z5), PySem.W.nsMap_none_of_in X z5 z6, PySem.W.tail_of_in X z4⟩
def tRaise (J : XJ) (C : Addr) (t : TA) : TS := fun _ σ H => t σ H fun vs H1 => vs.length ≤ sizeLine ∧ J (.ref C) none σ H1
theorem ps_raise {X : Cx} {J : XJ} {C : Addr} {x : Str} {np cpos pos : Pos} {e : Expr} {es : List Expr} {t : TA} (hx : Makes X J) (hc : X.calm = true) (hg : Gl X x) (hm : X.mg x = some (.ref C)) (z : PySem.W.excIn X.K C bmV "ValueError.__new__" = true) (ha : PA X (e :: es) t)
    (hdb : (x == ("__debug__" : Str)) = false := by decide) (he : starEach (e :: es) X.env = (false, eval e X.env) :: starEach es X.env := by rfl) (hpl : (backTo cpos (starEach es X.env)).any (·.1) = false := by rfl) :
    PS X (.Raise (some (.Call (.Name x np) (e :: es) [] cpos)) none pos) (tRaise J C t) := by
  intro pins s σ H D I h
  obtain ⟨bm, N, nm, q, bs, hdct, sn, sub, ab, col, dd, k0, k1, k2, k3, k5, mN, hC, hN, hni, T⟩ := own_obj I.mod.kin z
  have hp2 : (backTo cpos (starEach (e :: es) X.env)).any (·.1) = false := by
    rw [he]
    show (false || (backTo cpos (starEach es X.env)).any (·.1)) = false
    rw [hpl]
    rfl
  refine wpAny_Raise_call_subT PySem.F.excBase_ValueError (C := C) (nm := nm) (q := q) (N := N) (bs := bs) (bm := bm) (hdct := hdct) (sn := sn) (sub := sub) (ab := ab) (col := col) (dd := dd) (k0 := k0) (k1 := k1) (k2 := k2) (k3 := k3) (k5 := k5) (mN := mN)
    (T.hasType PySem.F.excBase_ValueError.hasBase) (I.ok.hd hc) hp2 hni (ld_glob I hg hm ⟨rfl, ?_⟩ hdb)
  have a1 := thn (ha cpos pins s σ H _ I h) (Q' := fun us s2 => (⟨us, []⟩ : Args).kw = [] ∧ us.length ≤ sizeLine ∧ s2.heap.get? C = some (excClassObj nm q C N bs bm hdct sn sub ab col dd k0 k1 k2 k3 k5 "ValueError.__new__") ∧ s2.heap.Ns N mN ∧ OwnTail s2.heap bmV bm ∧
      ∀ h' e, Heap.MadeExcOf s2.heap h' e (.ref C) us → X.xe (.ref e) { s2 with heap := h' }) fun us s2 ⟨vs, H1, I1, r, hl, hj⟩ =>
    ⟨rfl, by rw [← r.length]; exact hl, I1.bk _ _ hC, hN.keeps I1.bk, T.keeps I1.bk, fun h' e2 hmk => hx pins σ H1 s2 e2 _ _ h' I1 hmk hj⟩
  rw [he] at a1 ⊢
  exact Calls.evalArgs_plain a1


theorem PS.nox {X : Cx} {st : Stmt} {t : TS} (h : PS X.nox st t) : PS X st t := fun pins s σ H D I hw =>
  wpAny_mono (h pins s σ H D (I.wish _) hw) (fun _ _ q => q.unwish) fun _ _ z => False.elim z
end L2

set_option Elab.async false
set_option linter.all false
set_option maxRecDepth 100000
set_option maxHeartbeats 4000000

namespace L2
open PySem PySem.Spec PyProof.Rows PySem.W

section
variable {X : Cx} {pins pn : List (Addr × Obj)} {σ : St} {H : Hp} {s : Shared} {J : XJ}
abbrev Cx.pinned (X : Cx) (pn : List (Addr × Obj)) : Cx := { X with pn := X.pn ++ pn }
theorem Cx.Ok.pinned (ok : X.Ok) (pn : List (Addr × Obj)) : (X.pinned pn).Ok :=
  ⟨ok.mod, ok.kind, ok.glob, ok.blt, ok.above, ok.inj, ok.has, ok.cab, ok.hd, ok.frames, ok.stk, ok.exf, ok.bs, ok.bsz, ok.noex, ok.exfs, ok.funs, ok.frf⟩
theorem Cx.Ok.unpinned' (ok : (X.pinned pn).Ok) : X.Ok :=
  ⟨ok.mod, ok.kind, ok.glob, ok.blt, ok.above, ok.inj, ok.has, ok.cab, ok.hd, ok.frames, ok.stk, ok.exf, ok.bs, ok.bsz, ok.noex, ok.exfs, ok.funs, ok.frf⟩
theorem Inv.toPn (I : Inv X pins σ H s) : Inv (X.pinned pins) [] σ H s := ⟨I.ok.pinned _, I.os, I.bare, I.base, I.loc, I.cell, I.free, I.freeC, fun p hp => I.pin p (by simpa using hp), I.hok, I.len⟩
theorem Inv.ofPn (I : Inv (X.pinned pins) [] σ H s) : Inv X pins σ H s := ⟨I.ok.unpinned', I.os, I.bare, I.base, I.loc, I.cell, I.free, I.freeC, fun p hp => I.pin p (by simpa using hp), I.hok, I.len⟩

abbrev Cx.tried (X : Cx) (pn : List (Addr × Obj)) (J : XJ) : Cx := (X.pinned pn).wish (Fly (X.pinned pn) J)
theorem flies_tried : Flies (X.tried pn J) J := fun u s' ⟨e, cls, a0, dx, σ, H', h1, ⟨B, H, S, I, q⟩, h3⟩ => ⟨e, cls, a0, dx, σ, H', h1, ⟨B, H, S, I.unwish, q⟩, h3⟩

abbrev Cx.suite (X : Cx) (e : Addr) : Cx := { X with A := X.A.mark (some (.ref e)), calm := false, xe := fun _ _ => False }
theorem Cx.Ok.suite (ok : X.Ok) (e : Addr) : (X.suite e).Ok :=
  ⟨ok.mod, ok.kind, ok.glob, ok.blt, ok.above, ok.inj, ok.has, ok.cab, fun z => Bool.noConfusion z, ok.frames, ok.stk, ok.exf, ok.bs, ok.bsz, ok.noex, ok.exfs, ok.funs, ok.frf⟩
theorem Inv.suite (I : Inv X pins σ H s) (e : Addr) : Inv (X.suite e) pins σ H s := ⟨I.ok.suite e, I.os, I.bare, I.base, I.loc, I.cell, I.free, I.freeC, I.pin, I.hok, I.len⟩
theorem Inv.unsuite {e : Addr} (ok : X.Ok) (I : Inv (X.suite e) pins σ H s) : Inv X pins σ H s := ⟨ok, I.os, I.bare, I.base, I.loc, I.cell, I.free, I.freeC, I.pin, I.hok, I.len⟩


end


def PH (X : Cx) (hs : List ExceptHandler) (th : Ends → XJ) : Prop := ∀ (pins : List (Addr × Obj)) (s : Shared) (σ : St) (H : Hp) (D : Ends) (e : Addr) (cls a0 : Value) (dx : Option Addr), FlyAt X pins e cls a0 dx σ H s → th D cls dx σ H →
  wpAny (model X.prog X.w) X.A (handleBy (.ref e) X.env hs) (SP X pins D) X.xe s
def hNo : Ends → XJ := fun _ _ _ _ _ => False
theorem ph_none {X : Cx} : PH X [] hNo := fun _ _ _ _ _ _ _ _ _ _ h => h.elim

def behind (i : Nat) (D : Ends) : Ends := { nx := fun σ H => D.nx (σ.set i none) H, rt := D.rt, bk := fun σ H => D.bk (σ.set i none) H, ct := fun σ H => D.ct (σ.set i none) H }
def hAs (K : Frag) (C : Addr) (i : Nat) (ts : TS) (th : Ends → XJ) : Ends → XJ := fun D cls dx σ H => ∃ (C' : Addr) (b : Bool), cls = .ref C' ∧ subIn K (.ref C') (.ref C) = some b ∧
  if b = true then ∀ e, H e = none → ts (behind i D) (σ.set i (some (.ref e))) (upd H e (excX e cls dx)) else th D cls dx σ H

theorem exc_match {M : Model} {A : Around} {E : Value → Shared → Prop} {nm q : Str} {C C' N : Addr} {bs bm : List Value} {hdct : Bool} {sn : List Str} {sub : List Value} {ab : Bool} {col : Option Bool} {dd : Option Addr} {k0 k1 k2 k3 k5 : Option Value} {nid : String}
    {h : Heap} {g : Array GenState} {d : Drawn} {t : Nat} {os : OsState} {e : Addr} {oe : Obj} {b : Bool} {Q : Bool → Shared → Prop} (hC : h.get? C = some (excClassObj nm q C N bs bm hdct sn sub ab col dd k0 k1 k2 k3 k5 nid))
    (he : h.get? e = some oe) (hcls : oe.cls = .ref C') (hbase : bm.contains (.type "BaseException") = true) (LS : Looks M h (isSubtype (.ref C') (.ref C)) b) (hq : Q b ⟨h, g, d, t, os⟩) : wpAny M A (excMatches (.ref e) (.ref C)) Q E ⟨h, g, d, t, os⟩ := by
  have hb2 : (Value.ref C :: bm).contains (.type "BaseException") = true := by rw [List.contains_cons, hbase, Bool.or_true]
  have tnt := tc_notTuple
  unfold excMatches
  repeat (first | (with_reducible refine wpAny_loadPart_at he ?_; rw [hcls]) | with_reducible refine wpAny_loadPart_at hC ?_ | (with_reducible refine wpAny_isSubtype_exc hC ?_; rw [hb2]) | with_reducible refine LS.at ?_ | wp_step)
  cases b <;> (wp_walk; exact hq)

section
variable {X : Cx} {th : Ends → XJ}
def tTry (tb : XJ → TS) (th : Ends → XJ) : TS := fun D σ H => tb (th D) D σ H
theorem ps_try {tb : XJ → TS} {body : List Stmt} {h0 : ExceptHandler} {hs : List ExceptHandler} {pos : Pos} (hb : ∀ pn J, PSs (X.tried pn J) body (tb J)) (hh : PH X (h0 :: hs) th) (hstk : X.stack = X.env :: X.outer := by rfl) (hfr : X.env.frame = some X.env.locals := by rfl) :
    PS X (.Try body (h0 :: hs) [] [] pos) (tTry tb th) := by
  intro pins s σ H D I h
  refine wpAny_Try_except (wpAny_mono (hb pins (th D) [] s σ H D (I.toPn.wish _) h) (fun f s1 q => ?_) fun u s1 q => ?_)
  · cases f with
    | next => obtain ⟨σ', H', I', q⟩ := q; exact wpAny_execs_nil ⟨σ', H', I'.unwish.ofPn, q⟩
    | brk => obtain ⟨σ', H', I', q⟩ := q; exact ⟨σ', H', I'.unwish.ofPn, q⟩
    | cont => obtain ⟨σ', H', I', q⟩ := q; exact ⟨σ', H', I'.unwish.ofPn, q⟩
    | ret u => obtain ⟨v, σ', H', I', r, q⟩ := q; exact ⟨v, σ', H', I'.unwish.ofPn, r, q⟩
  · obtain ⟨e, cls, a0, dx, σ', H', rfl, ⟨B, H1, S, I1, q1, q2, q3, q4, q5, dE⟩, hj⟩ := q
    have q5' : Heap.FlyingW B (X.env :: X.outer) e cls a0 s1.heap := hstk ▸ q5
    refine wpAny_mono (wpAny_keepsD (kd_noteFrame _ _) (wpAny_looks_onW (E := fun _ _ => False) (Q := fun _ s2 => ∃ h4, s2 = { s1 with heap := h4 } ∧ Heap.HeldW B (X.env :: X.outer) e cls a0 X.env.locals h4 ∧ s1.heap.UpToSlots h4) (L := X.env.locals) (I.ok.frames.trans (congrArg some hstk)) hfr q5' fun h4 held4 up4 => ⟨h4, rfl, held4, up4⟩)) (fun _ s2 ⟨⟨h4, e4, held4, up4⟩, kd4⟩ => ?_) (fun _ _ z => z.1.elim)
    subst e4
    refine wpAny_mono (wpAny_keepsD (kd_setFlight _ _) (wpAny_landsW (E := fun _ _ => False) (Q := fun _ s2 => ∃ h5, s2 = { s1 with heap := h5 } ∧ Heap.FlyingW B (X.env :: X.outer) e cls a0 h5 ∧ h4.UpToSlots h5) held4 fun h5 fl5 up5 => ⟨h5, rfl, fl5, up5⟩)) (fun _ s2 ⟨⟨h5, e5, fl5, up5⟩, kd5⟩ => ?_) (fun _ _ z => z.1.elim)
    subst e5
    exact hh pins _ σ' H' D e cls a0 dx (FlyAt.step (s' := s1) I1.ofPn q1 q2 q3 q4 q5 (hstk ▸ fl5) (up4.trans up5) (dE.go (kd4.trans kd5))) hj
end


structure ExcC (K : Frag) (C : Addr) : Prop where
  cls : ktsIn K C "BaseException" = true
  ga : findIn K (.ref C) "__getattribute__" = some (some (.builtin "BaseException.__getattribute__"))
  gt : findIn K (.ref C) "__getattr__" = some none
  cl : findIn K (.ref C) "__class__" = some (some (.builtin "object.__class__"))
  ob : subIn K (.ref C) (.type "object") = some true
  be : subIn K (.ref C) (.type "BaseException") = some true
section
variable {prog : Program} {w : World} {A : Around} {E : Value → Shared → Prop} {h : Heap} {g : Array GenState} {d : Drawn} {t : Nat} {os : OsState} {a C : Addr} {o : Obj} {K : Frag}
end
section
variable {X : Cx} {K : Frag}

end
end L2

set_option Elab.async false
set_option linter.all false
set_option maxRecDepth 100000
set_option maxHeartbeats 4000000

namespace L2
open PySem PySem.Spec PyProof.Rows

def Ite (K : PySem.W.Frag) (a : Addr) : It :=
  ⟨fun i H => ∃ xs x, SqL K H a xs ∧ xs[i]? = some x, fun i H x H' => ∃ p v, H p = none ∧ x = .ref p ∧ H' = upd H p (.tup [.int i, v]) ∧ ∀ xs, SqL K H a xs → xs[i]? = some v, fun i H => ∃ xs, SqL K H a xs ∧ xs.length ≤ i⟩
def iEnum (K : PySem.W.Frag) (ta : TA) : TI := fun σ H R => ta σ H fun vs H1 => ∃ a, vs = [.ref a] ∧ (∃ xs, SqL K H1 a xs) ∧ R (Ite K a) H1
section
variable {g : TG} {tc : TT} {te : TE} {D : Addr} {Q : Hp → Prop} {τ : St} {H : Hp}
end
end L2

set_option Elab.async false
set_option linter.all false
set_option maxRecDepth 100000
set_option maxHeartbeats 4000000

namespace L2
open PySem PySem.Spec PyProof.Rows

theorem Inv.turnedN {X : Cx} {pins : List (Addr × Obj)} {σ : St} {H : Hp} {s : Shared} {h' : Heap} {t' : Nat} {fp : List Addr} (I : Inv X pins σ H s) (k : ∀ b o, b ∉ fp → s.heap.get? b = some o → h'.get? b = some o) (hf : ∀ b ∈ fp, FpOk X pins H b) :
    Inv X pins σ H { s with heap := h', toks := t' } := by
  have ntr : ∀ c o, H c = some o → c ∉ fp := fun c o e hm => by rw [(hf c hm).1] at e; cases e
  refine I.step (g' := s.gens) (d' := s.drawn) (ch := fp) (fun b hb => ?_) (fun b o _ _ hc e _ => k b o hc e) (fun b o _ _ hc e _ => ⟨o.slots, k b o hc e⟩) (fun _ _ _ _ n => n)
    (fun b o hc e => ⟨o, k b o hc e⟩) (fun _ _ e => e) (fun _ _ _ e => e) (fun b ps e => ⟨#[], by rw [e]; simp⟩) (fun m hm => ?_) (fun b u e => ?_) I.bare
  · have f := hf b hb
    exact ⟨f.2.2.2.1, f.2.1, f.2.2.2.2.1, f.2.2.2.2.2⟩
  · obtain ⟨o, es', ep, ho, r⟩ := hm
    exact ⟨o, es', ep, k _ o (fun z => (hf _ z).2.1 rfl) ho, r⟩
  · refine (I.hok b u e).stay (fun c y hc' q => ?_) (fun c q => q) fun c ys q => q
    rcases hc' with rfl | hc'
    · exact k _ _ (ntr _ _ e) q
    · exact k _ _ (ntr _ _ hc') q

def Itz (K : PySem.W.Frag) (a b : Addr) : It :=
  ⟨fun i H => ∃ xs ys x y, SqL K H a xs ∧ SqL K H b ys ∧ xs[i]? = some x ∧ ys[i]? = some y,
   fun i H v H' => ∃ p x y, H p = none ∧ v = .ref p ∧ H' = upd H p (.tup [x, y]) ∧ (∀ xs, SqL K H a xs → xs[i]? = some x) ∧ ∀ ys, SqL K H b ys → ys[i]? = some y,
   fun i H => ∃ xs ys, SqL K H a xs ∧ SqL K H b ys ∧ (xs.length ≤ i ∨ ys.length ≤ i)⟩
theorem turn_zip {P : Program} {w : World} {K : PySem.W.Frag} {es : List Expr} {x1 : Nat} {tpos : Pos} (a b z TI TO i1 i2 : Addr) (D : ZipApart z TI TO i1 i2 a b) :
    Turn P w K (.Tuple es x1 tpos) (Itz K a b) [z, TI, TO, i1, i2] z (fun i h => IsZip h z TI TO .none ∧ IsPair h TI (.ref i1) (.ref i2) ∧ (∃ c d, IsPair h TO c d) ∧ h.IsListIter i1 a i ∧ h.IsListIter i2 b i) where
  mem := by simp
  obj := fun i h st c hc => by
    obtain ⟨hz, hTI, ⟨u, v, hTO⟩, ⟨o1, h1, c1, d1⟩, ⟨o2, h2, c2, d2⟩⟩ := st
    simp only [List.mem_cons, List.not_mem_nil, or_false] at hc
    rcases hc with rfl | rfl | rfl | rfl | rfl
    · exact ⟨_, hz, fun v q => by cases (show Data.fields _ = Data.cell v from q)⟩
    · exact ⟨_, hTI, fun v q => by cases (show Data.seq _ _ = Data.cell v from q)⟩
    · exact ⟨_, hTO, fun v q => by cases (show Data.seq _ _ = Data.cell v from q)⟩
    · exact ⟨o1, h1, fun v q => by rw [d1] at q; cases q⟩
    · exact ⟨o2, h2, fun v q => by rw [d2] at q; cases q⟩
  keep := fun i h h' st k => by
    obtain ⟨hz, hTI, ⟨u, v, hTO⟩, h1, h2⟩ := st
    exact ⟨k z (by simp) _ hz, k TI (by simp) _ hTI, ⟨u, v, k TO (by simp) _ hTO⟩, h1.at fun o q => k i1 (by simp) o q, h2.at fun o q => k i2 (by simp) o q⟩
  item := by
    intro X hP hw hK hc i pins s σ H E I hf st hg
    subst hP hw hK
    obtain ⟨hz, hTI, ⟨u0, v0, hTO⟩, h1, h2⟩ := st
    obtain ⟨xs, ys, x, y, hqa, hqb, hx, hy⟩ := hg
    obtain ⟨ia, ra, pa, _⟩ := I.list hqa
    obtain ⟨ib, rb, pb, _⟩ := I.list hqb
    obtain ⟨u, hu, ru⟩ := ra.get hx
    obtain ⟨v, hv, rv⟩ := rb.get hy
    have hfresh : H s.heap.objs.size = none := I.hok.fresh (Nat.le_refl _)
    have ltz := Heap.lt_size hz
    refine wpAny_pyNext_zip_item D hz hTI hTO h1 h2 pa.isList pb.isList (x := u) (y := v) (by simpa using hu) (by simpa using hv) fun h' hz' hTO' h1' h2' htup hsz hk => ?_
    refine ⟨_, rfl, wpAny_letOwnedTupleGo_zip hz' fun h3 hz3 hsb => ?_⟩
    replace hsb : Heap.SameBut z h' h3 := hsb
    have kk : ∀ c o, c ∉ [z, TI, TO, i1, i2] → s.heap.get? c = some o → h3.get? c = some o := fun c o hc e => by
      simp only [List.mem_cons, List.not_mem_nil, or_false, not_or] at hc
      obtain ⟨n1, n2, n3, n4, n5⟩ := hc
      exact (hsb.2 c n1).trans (hk c o n1 n3 n4 n5 e)
    have ht3 : h3.get? s.heap.objs.size = some { cls := .type "tuple", data := .seq #[u, v] } := (hsb.2 _ (Nat.ne_of_gt ltz)).trans htup
    have hi1 : h3.IsListIter i1 a (i + 1) := h1'.at fun o e => (hsb.2 i1 D.i1z).trans e
    have hi2 : h3.IsListIter i2 b (i + 1) := h2'.at fun o e => (hsb.2 i2 D.i2z).trans e
    have hTI3 : IsPair h3 TI (.ref i1) (.ref i2) := (hsb.2 TI D.TIz).trans (hk _ _ D.TIz D.TITO D.TIi1 D.TIi2 hTI)
    have hTO3 : IsPair h3 TO u v := (hsb.2 TO D.TOz).trans hTO'
    have ntr : ∀ c o, H c = some o → c ∉ [z, TI, TO, i1, i2] := fun c o e hm => by rw [(hf c hm).1] at e; cases e
    have nsz : ∀ c o, H c = some o → c ≠ s.heap.objs.size := fun c o e => ne_of_none e hfresh
    refine ⟨.ref s.heap.objs.size, upd H s.heap.objs.size (.tup [x, y]), ?_, rfl, ⟨s.heap.objs.size, x, y, hfresh, rfl, rfl, fun zs q => by rw [I.list_inj q hqa]; exact hx, fun zs q => by rw [I.list_inj q hqb]; exact hy⟩, ⟨hz3, hTI3, ⟨_, _, hTO3⟩, hi1, hi2⟩, fun c hc => ?_⟩
    · refine Inv.step (s := s) (h' := h3) (t' := s.toks) (H' := upd H s.heap.objs.size (.tup [x, y])) I (g' := s.gens) (d' := s.drawn) (ch := [z, TI, TO, i1, i2]) (fun c hc => ?_) (fun c o _ _ hc e _ => kk c o hc e) (fun c o _ _ hc e _ => ⟨o.slots, kk c o hc e⟩) (fun c o hc e n => ?_) (fun c o hc e => ⟨o, kk c o hc e⟩)
        (fun c zs e => by rw [upd_ne (nsz c _ e)]; exact e) (fun c o w' e => by rw [upd_ne (nsz c _ e)]; exact e) (fun c ps e => ⟨#[], by rw [upd_ne (nsz c _ e), e]; simp⟩) (fun m hm => ?_) (fun c w' e => ?_) I.bare
      · have f := hf c hc
        exact ⟨f.2.2.2.1, f.2.1, f.2.2.2.2.1, f.2.2.2.2.2⟩
      · rw [upd_ne (Nat.ne_of_lt (Heap.lt_size e))]
        exact n
      · obtain ⟨o, es', ep, ho, r⟩ := hm
        exact ⟨o, es', ep, kk _ o (fun q => (hf _ q).2.1 rfl) ho, r⟩
      · by_cases hcs : c = s.heap.objs.size
        · subst hcs
          rw [upd_same] at e
          cases e
          exact ⟨(by show (2 : Nat) ≤ sizeLine; decide), [u, v], .cons ru (.cons rv .nil), ⟨_, ht3, rfl, rfl, _, rfl⟩⟩
        · rw [upd_ne hcs] at e
          refine (I.hok c w' e).stay (fun c' y' hc' q => ?_) (fun c' q => by rw [upd_ne (nsz c' _ q)]; exact q) fun c' zs q => by rw [upd_ne (nsz c' _ q)]; exact q
          rcases hc' with rfl | hc'
          · exact kk _ _ (ntr _ _ e) q
          · exact kk _ _ (ntr _ _ hc') q
    · have lb : c < s.heap.objs.size := by
        simp only [List.mem_cons, List.not_mem_nil, or_false] at hc
        obtain ⟨o1, q1, _⟩ := h1
        obtain ⟨o2, q2, _⟩ := h2
        rcases hc with rfl | rfl | rfl | rfl | rfl
        · exact ltz
        · exact Heap.lt_size hTI
        · exact Heap.lt_size hTO
        · exact Heap.lt_size q1
        · exact Heap.lt_size q2
      rw [upd_ne (Nat.ne_of_lt lb)]
      exact (hf c hc).1
  done := by
    intro X hP hw hK hc i pins s σ H E I hf st hg
    subst hP hw hK
    obtain ⟨hz, hTI, ⟨u0, v0, hTO⟩, h1, h2⟩ := st
    obtain ⟨xs, ys, hqa, hqb, hx⟩ := hg
    obtain ⟨ia, ra, pa, _⟩ := I.list hqa
    obtain ⟨ib, rb, pb, _⟩ := I.list hqb
    have la := ra.length
    have lb := rb.length
    refine wpAny_pyNext_zip_end (I.ok.hd hc) D hz hTI hTO h1 h2 pa.isList pb.isList ?_ fun h' hk => ⟨rfl, I.turnedN (t' := s.toks) (fp := [z, TI, TO, i1, i2]) (fun c o hc e => ?_) hf⟩
    · rcases hx with q | q
      · exact .inl (by simp; omega)
      · exact .inr (by simp; omega)
    · simp only [List.mem_cons, List.not_mem_nil, or_false, not_or] at hc
      obtain ⟨n1, n2, n3, n4, n5⟩ := hc
      exact hk c o n1 n3 n4 n5 e
  self := fun _ _ _ _ _ st h => wpAny_pyIter_zip st.1 h

def iZip (K : PySem.W.Frag) (ta : TA) : TI := fun σ H R => ta σ H fun vs H1 => ∃ a b, vs = [.ref a, .ref b] ∧ (∃ xs, SqL K H1 a xs) ∧ (∃ ys, SqL K H1 b ys) ∧ R (Itz K a b) H1
theorem boot_zipT : bootBuiltins "zip" = some (.type "zip") := by decide +kernel
theorem pi_zip {X : Cx} {K : PySem.W.Frag} {es : List Expr} {x1 : Nat} {tpos : Pos} {a b : Expr} {ta : TA} {p pos : Pos} (hg : Gl X "zip") (hm : X.mg "zip" = none) (ha : PA X [a, b] ta) (hK : X.K = K := by rfl) (hs : starEach [a, b] X.env = [(false, eval a X.env), (false, eval b X.env)] := by rfl) (hs2 : starEach [b] X.env = [(false, eval b X.env)] := by rfl) :
    PI X (.Tuple es x1 tpos) (.Call (.Name "zip" p) [a, b] [] pos) (iZip K ta) := by
  subst hK
  intro pins s σ H R I h
  refine Call_ (ld_blt I hg hm boot_zipT (PyProof.Rows.callWith_type1 (thn (ha pos pins s σ H _ I h) fun us s1 ⟨vs, H1, I1, r1, q1⟩ => ?_) (by rw [hs, hs2]) (by rw [hs2]; rfl)))
  obtain ⟨la, lb, e, ⟨xs, hqa⟩, ⟨ys, hqb⟩, q⟩ := q1
  subst e
  cases r1 with
  | cons ra rr =>
    cases rr with
    | cons rb rr =>
      cases rr
      cases ra
      cases rb
      obtain ⟨ia, _, pa, _⟩ := I1.list hqa
      obtain ⟨ib, _, pb, _⟩ := I1.list hqb
      have a1 : la < s1.heap.objs.size := by obtain ⟨_, e, _⟩ := pa.isList; exact Heap.lt_size e
      have a2 : lb < s1.heap.objs.size := by obtain ⟨_, e, _⟩ := pb.isList; exact Heap.lt_size e
      refine call_zip_2 pa.isList pb.isList fun h' hz hTI hTO hi1 hi2 hsz hk => ?_
      refine wpAny_pyIter_zip hz ⟨s1.heap.objs.size + 4, [s1.heap.objs.size + 4, s1.heap.objs.size + 2, s1.heap.objs.size + 3, s1.heap.objs.size, s1.heap.objs.size + 1], _, _, H1, rfl, I1.kept (t' := s1.toks) hk, turn_zip la lb _ _ _ _ _ (zipApart_new a1 a2), ⟨hz, hTI, ⟨_, _, hTO⟩, hi1, hi2⟩, fun c hc => ?_, q⟩
      have lc : s1.heap.objs.size ≤ c := by
        simp only [List.mem_cons, List.not_mem_nil, or_false] at hc
        rcases hc with rfl | rfl | rfl | rfl | rfl
        · exact Nat.le_add_right _ _
        · exact Nat.le_add_right _ _
        · exact Nat.le_add_right _ _
        · exact Nat.le_refl _
        · exact Nat.le_add_right _ _
      exact I1.fpOk lc (I1.hok.fresh lc)
section
variable {g : TG} {tc : TT} {te : TE} {D : Addr} {Q : Hp → Prop} {τ : St} {H : Hp}
theorem comp_zip {K : PySem.W.Frag} {a b : Addr} {xs ys : List V} {n : Nat} (hn : n = min xs.length ys.length) (Pv : Nat → List V → St → Hp → Prop) (h0 : Pv 0 [] τ H) (hl : ∀ i zs τ H, i ≤ n → Pv i zs τ H → SqL K H a xs ∧ SqL K H b ys)
    (hs : ∀ i x y zs τ H p, xs[i]? = some x → ys[i]? = some y → Pv i zs τ H → H p = none → g (.ref p) τ (upd H p (.tup [x, y])) fun τ2 H2 => tc τ2 H2 fun b H3 => if b = true then te τ2 H3 fun y H4 => H4 D = some (.lst zs) ∧ zs.length < sizeLine ∧ Pv (i + 1) (zs ++ [y]) τ2 (upd H4 D (.lst (zs ++ [y]))) else Pv (i + 1) zs τ2 H3)
    (hd : ∀ zs τ H, Pv n zs τ H → Q H) : RunC (Itz K a b) g tc te D Q τ H := by
  refine ⟨fun i m zs τ H => m = n - i ∧ i ≤ n ∧ Pv i zs τ H, ⟨n, by simp, Nat.zero_le _, h0⟩, ?_⟩
  rintro i m zs τ H ⟨rfl, hi, pp⟩
  obtain ⟨qa, qb⟩ := hl i zs τ H hi pp
  by_cases hlt : i < n
  · refine .inr ⟨⟨xs, ys, xs[i], ys[i], qa, qb, by simp <;> omega, by simp <;> omega⟩, Pv (i + 1), fun ys' τ' H' p' => ⟨n - (i + 1), by omega, rfl, hlt, p'⟩, fun x H' y => ?_⟩
    obtain ⟨p, u, v, hp, rfl, rfl, y1, y2⟩ := y
    exact hs i u v zs τ _ p (y1 xs qa) (y2 ys qb) pp hp
  · have e : i = n := by omega
    subst e
    exact .inl ⟨⟨xs, ys, qa, qb, by omega⟩, hd zs τ H pp⟩
end


theorem op_mulX {X : Cx} : OpR X (binaryOp .Mult) (rI IntMulOk fun i j => .int (i * j)) := opI fun _ _ _ _ _ _ _ hc q => mul_int q hc
theorem bits_le {i : Int} {m : Nat} (h : i.natAbs < 2 ^ m) : Builtin.Int.intBits i ≤ m := by
  unfold Builtin.Int.intBits
  split
  · exact Nat.zero_le _
  · rename_i h0
    have hne : i.natAbs ≠ 0 := by
      intro z
      exact h0 (by have : i = 0 := by omega
                   simp [this])
    exact (Nat.log2_lt hne).mpr h
theorem mulok {i j : Int} {m n : Nat} (hi : i.natAbs < 2 ^ m) (hj : j.natAbs < 2 ^ n) (h : m + n ≤ 134217728) : IntMulOk i j := by
  have h1 := bits_le hi
  have h2 := bits_le hj
  have h3 : ¬ ((Builtin.Int.intBits i : Nat) : Int) + ((Builtin.Int.intBits j : Nat) : Int) > ((bitsLine : Nat) : Int) := by
    have : bitsLine = 134217728 := by decide
    omega
  unfold IntMulOk
  intro hz
  simp only [Bool.and_eq_true] at hz
  have h4 := hz.2
  unfold Builtin.Int.intTooBig at h4
  exact h3 (by simpa using h4)
theorem mulokL {i j : Int} (h1 : -(2 ^ 64) < i) (h2 : i < 2 ^ 64) : IntMulOk i j := CMul.ok (.inl ⟨h1, h2⟩)
theorem mulokR {i j : Int} (h1 : -(2 ^ 64) < j) (h2 : j < 2 ^ 64) : IntMulOk i j := CMul.ok (.inr ⟨h1, h2⟩)
end L2


namespace L2
open PySem PySem.W PySem.Calls PyProof.Rows
def cellBits : Nat := 1048576
theorem weight_mem : ∀ {ns : List Int} {x : Int}, x ∈ ns → WData.weight (.int x) ≤ WData.weightAll (ns.map WData.int)
  | n :: ns, x, h => by
    rw [List.map_cons]
    simp only [WData.weightAll]
    rcases List.mem_cons.mp h with rfl | h
    · omega
    · have := weight_mem h
      omega
theorem cell_bits {ns : List Int} (h : WData.layableAll [WData.list (ns.map WData.int)] = true) : ∀ x ∈ ns, x.natAbs < 2 ^ cellBits := by
  intro x hx
  have h1 : decide (WData.weight (WData.list (ns.map WData.int)) ≤ 2 ^ 20) = true := by
    have : WData.layable (WData.list (ns.map WData.int)) = true := by simpa [WData.layableAll] using h
    unfold WData.layable at this
    exact (Bool.and_eq_true_iff.mp this).2
  have h2 : WData.weightAll (ns.map WData.int) ≤ 1048576 := by
    have := of_decide_eq_true h1
    simpa only [WData.weight] using this
  have h3 := weight_mem hx
  by_cases h0 : x.natAbs = 0
  · rw [h0]; exact Nat.pow_pos (by decide)
  · have h4 : WData.weight (.int x) = x.natAbs.log2 + 1 := by
      simp only [WData.weight]
      rw [if_neg (by intro z; have : x = 0 := by simpa using z
                     exact h0 (by rw [this]; rfl))]
    have h5 : x.natAbs.log2 < cellBits := by show _ < 1048576; omega
    exact (Nat.log2_lt h0).mp h5
theorem attach_callB {l : OpenLaw} {n : Nat} {q : Program} {loose : List Str} {XP : (Str → Option Value) → Heap → Prop} {YP : World → Heap → Prop} {d : DefRec}
    (hn : l.most = some n) (hdf : d.params.defaults = [])
    (call : ∀ (w : World) (s₀ s₁ : Shared) (mg mb : Str → Option Value) (fa : Addr) (o : Obj) (pm cd doc : Value) (a : Addr) (vs : List Value) (ns : List Int), (∀ x ∈ ns, x.natAbs < 2 ^ cellBits) →
      Ground q loose [] XP w s₀ mg mb s₁.heap → YP w s₁.heap →
      s₁.heap.get? fa = some o → o.data = .func (docDef d.name d.params d.body d.scope pm cd doc) → s₁.heap.CodeRec cd d.name → mg d.name = some (.ref fa) →
      s₁.heap.get? a = some { cls := .type "list", data := .seq vs.toArray } → IntsAre vs ns → ns.length ≤ n → s₁.gens = #[] →
      codeAny (model l.prog w) callerA (.call (.ref fa) ⟨[.ref a], []⟩) (fun r s' => r = .ok (.ret (.bool true)) ∧ OldK s₁.heap s'.heap ∧ s'.os = s₁.os ∧ AllBare s'.gens) s₁) :
    WalkO q loose XP YP l.row.toRowW d [] (fun f vs => PySem.call f vs) := by
  intro w s₀ s₁ mg mb G Y fa o pm cd doc dV kV ho hd hcd hD hmg hg args vals as hpre hlay hrd hwl hlo
  obtain rfl : dV = .none := Dflts.none hD hdf
  obtain rfl : kV = .none := Dflts.noKw hD
  obtain ⟨a, vs, ns, rfl, rfl, hobj, hints, hlen⟩ := Att.script_of hn hpre hwl
  refine enter_call (codeAny_mono (call w s₀ s₁ mg mb fa o pm cd doc a vs ns (cell_bits hlay) G Y ho (fd_plain hd) hcd hmg hobj hints hlen hg) fun r s' hq => ?_)
  obtain ⟨rfl, h2, h3, h4⟩ := hq
  exact ⟨.inl ⟨.bool true, .bool true, [], rfl, fun _ => rfl, .bool true, Att.post_true l _, fun _ => ⟨List.Pairwise.nil, fun _ hm => (nomatch hm)⟩⟩, h2, h3, h4⟩
theorem walk_ofB {l : PySem.W.OpenLaw} {n k : Nat} {q : Program} {loose : List Str} {XP : (Str → Option Value) → Heap → Prop} {YP : World → Heap → Prop} {d : DefRec} {K : Params → PySem.W.Frag} {CX : World → CXT} {sp : World → Sp} {x : Str}
    (hn : l.most = some n) (hn2 : n ≤ sizeLine) (hdf : d.params.defaults = []) (hr : Room k callerA)
    (hY : ∀ (w : World) (h : Heap), YP w h → (K w.params).In h)
    (F : ∀ (w : World) (mg : Str → Option Value) (fa : Addr) (h : Heap), (K w.params).In h → h.Ns mainGlobals mg → mg d.name = some (.ref fa) →
      ∃ fd : FuncData, (∀ (s : Shared) (u : Value), BindsTo s fd ⟨[u], []⟩ [(x, u)]) ∧
        ∀ base : Heap, (K w.params).In base → base.Ns mainGlobals mg → FnOk l.prog w (K w.params) mg base (CX w) k fa fd [x] (sp w))
    (hsp : ∀ (w : World) (H : Hp) (a : Addr) (ns : List Int), ns.length ≤ n → (∀ x ∈ ns, x.natAbs < 2 ^ cellBits) → Only H → SqL (K w.params) H a (ns.map V.int) → sp w [.ref a] H (fun v _ => v = .bl true) fun _ _ _ => False)
    (hCX : ∀ (w : World) (H : Hp) (s : Shared) (e : Value) (s' : Shared), CX w [] H s (fun _ _ _ => False) e s' → False) :
    PySem.W.WalkO q loose XP YP l.row.toRowW d [] (fun f vs => PySem.call f vs) := by
  refine attach_callB hn hdf fun w s₀ s₁ mg mb fa o pm cd doc a vs ns hbit G Y ho hd hcd hmg hobj hints hlen hg => ?_
  have KX := hY w _ Y
  obtain ⟨fd, hb, hF⟩ := F w mg fa _ KX G.T.g hmg
  exact law_call KX G.T.g G.T.b G.T.builtins G.T.nolimit hg hobj hints (Nat.le_trans hlen hn2) hr hF hb (fun H hO hS => hsp w H a ns hlen hbit hO hS) fun H e s' => hCX w H s₁ e s'
end L2

set_option linter.all false

namespace Hb
def sumN (f : Nat → Int) : Nat → Int
  | 0 => 0
  | n + 1 => sumN f n + f n
theorem sumN_congr {f g : Nat → Int} : ∀ {n : Nat}, (∀ k, k < n → f k = g k) → sumN f n = sumN g n
  | 0, _ => rfl
  | n + 1, h => by
    show sumN f n + f n = sumN g n + g n
    rw [sumN_congr fun k hk => h k (by omega), h n (by omega)]
theorem sumN_add (f g : Nat → Int) : ∀ n : Nat, sumN (fun k => f k + g k) n = sumN f n + sumN g n
  | 0 => rfl
  | n + 1 => by
    show sumN _ n + (f n + g n) = (sumN f n + f n) + (sumN g n + g n)
    rw [sumN_add f g n]
    omega
theorem sumN_mulL (c : Int) (f : Nat → Int) : ∀ n : Nat, sumN (fun k => c * f k) n = c * sumN f n
  | 0 => by show (0 : Int) = c * 0; rw [Int.mul_zero]
  | n + 1 => by
    show sumN _ n + c * f n = c * (sumN f n + f n)
    rw [sumN_mulL c f n, Int.mul_add]
theorem sumN_delta (f : Nat → Int) (i : Nat) : ∀ n : Nat, sumN (fun k => (if k = i then 1 else 0) * f k) n = if i < n then f i else 0
  | 0 => by simp [sumN]
  | n + 1 => by
    show sumN _ n + (if n = i then 1 else 0) * f n = _
    rw [sumN_delta f i n]
    by_cases h : n = i
    · subst h; simp
    · by_cases h2 : i < n
      · rw [if_pos h2, if_neg h, if_pos (by omega)]; omega
      · rw [if_neg h2, if_neg h, if_neg (by omega)]; omega
def lsI (n : Nat) (f : Nat → Int) : List Int := (List.range n).map f
theorem lsI_len (n : Nat) (f : Nat → Int) : (lsI n f).length = n := by unfold lsI; rw [List.length_map, List.length_range]
theorem lsI_get {n i : Nat} {f : Nat → Int} (h : i < n) : (lsI n f)[i]? = some (f i) := by
  unfold lsI
  rw [List.getElem?_map, List.getElem?_range h]
  rfl
theorem lsI_succ (n : Nat) (f : Nat → Int) : lsI (n + 1) f = lsI n f ++ [f n] := by
  unfold lsI
  rw [List.range_succ, List.map_append]
  rfl
theorem lsI_congr {n : Nat} {f g : Nat → Int} (h : ∀ i, i < n → f i = g i) : lsI n f = lsI n g := by
  unfold lsI
  refine List.map_congr_left fun i hi => h i (List.mem_range.mp hi)
theorem lsI_rep (n : Nat) : (List.replicate n [(0 : Int)]).flatten = lsI n fun _ => 0 := by
  induction n with
  | zero => rfl
  | succ n ih =>
    rw [lsI_succ, ← ih]
    clear ih
    induction n with
    | zero => rfl
    | succ n ih =>
      rw [List.replicate_succ, List.flatten_cons, ih]
      have ih' := ih
      rw [List.replicate_succ, List.flatten_cons] at ih'
      rw [← List.append_assoc, ih']
theorem bd_mul {i j : Int} {m n : Nat} (hi : i.natAbs < 2 ^ m) (hj : j.natAbs < 2 ^ n) : (i * j).natAbs < 2 ^ (m + n) := by
  rw [Int.natAbs_mul, Nat.pow_add]
  exact Nat.mul_lt_mul'' hi hj
theorem bd_add {i j : Int} {m : Nat} (hi : i.natAbs < 2 ^ m) (hj : j.natAbs < 2 ^ m) : (i + j).natAbs < 2 ^ (m + 1) := by
  have h := Int.natAbs_add_le i j
  rw [Nat.pow_succ]
  generalize 2 ^ m = q at *
  omega
theorem bd_mono {i : Int} {m n : Nat} (hi : i.natAbs < 2 ^ m) (h : m ≤ n) : i.natAbs < 2 ^ n := Nat.lt_of_lt_of_le hi (Nat.pow_le_pow_right (by decide) h)
theorem bd_neg {i : Int} {m : Nat} (hi : i.natAbs < 2 ^ m) : (-i).natAbs < 2 ^ m := by rw [Int.natAbs_neg]; exact hi
theorem bd_sum {f : Nat → Int} {m : Nat} : ∀ {n : Nat}, (∀ k, k < n → (f k).natAbs < 2 ^ m) → (sumN f n).natAbs < 2 ^ (m + n)
  | 0, _ => by show (0 : Int).natAbs < _; exact Nat.pow_pos (by decide)
  | n + 1, h => by
    have h1 := bd_sum (n := n) (f := f) fun k hk => h k (by omega)
    show (sumN f n + f n).natAbs < 2 ^ (m + n + 1)
    exact bd_add h1 (bd_mono (h n (by omega)) (Nat.le_add_right m n))
end Hb

set_option Elab.async false
set_option linter.all false
set_option maxRecDepth 100000
set_option maxHeartbeats 4000000

namespace Hb
open PySem L2
abbrev VI (n : Nat) (f : Nat → Int) : List V := (lsI n f).map V.int
def dL (n : Nat) (f : Nat → Int) : L2.D := .lst (nums (lsI n f))
def dT (h w : Nat) (f : Nat → Nat → Int) : L2.D := .lst ((List.range h).map fun i => dL w (f i))
section
variable {K : PySem.W.Frag} {H H' H1 H2 : Hp}
theorem VI_len (n : Nat) (f : Nat → Int) : (VI n f).length = n := by rw [List.length_map, lsI_len]
theorem VI_get {n i : Nat} {f : Nat → Int} (h : i < n) : (VI n f)[i]? = some (.int (f i)) := by rw [List.getElem?_map, lsI_get h]; rfl
theorem VI_at {n i : Nat} {f : Nat → Int} (h : i < n) : atI (VI n f) ((i : Nat) : Int) = some (.int (f i)) := atI_nat (VI_get h)
theorem VI_at0 {n i : Nat} {f : Nat → Int} (h : i < n) : atI (VI n f) ((0 : Int) + (i : Int)) = some (.int (f i)) := by rw [Int.zero_add]; exact VI_at h
theorem VI_inv {n i : Nat} {f : Nat → Int} {u : V} (h : (VI n f)[i]? = some u) : i < n ∧ u = .int (f i) := by
  have h1 : i < (VI n f).length := (List.getElem?_eq_some_iff.mp h).1
  rw [VI_len] at h1
  rw [VI_get h1] at h
  exact ⟨h1, (Option.some.inj h).symm⟩
theorem VI_succ (n : Nat) (f : Nat → Int) : VI (n + 1) f = VI n f ++ [.int (f n)] := by
  show (lsI (n + 1) f).map V.int = _
  rw [lsI_succ, List.map_append]; rfl
theorem VI_congr {n : Nat} {f g : Nat → Int} (h : ∀ i, i < n → f i = g i) : VI n f = VI n g := by
  show (lsI n f).map V.int = (lsI n g).map V.int
  rw [lsI_congr h]
theorem VI_rep (n : Nat) : (List.replicate n [V.int 0]).flatten = VI n fun _ => 0 := by
  show _ = (lsI n fun _ => 0).map V.int
  rw [← lsI_rep, List.map_flatten, List.map_replicate]
  rfl
theorem dL_sq {v : V} {n : Nat} {f : Nat → Int} (h : Rep K H v (dL n f)) : ∃ a, v = .ref a ∧ SqL K H a (VI n f) := by
  obtain ⟨a, vs, e, q, r⟩ := h
  rw [reps_nums.mp r] at q
  exact ⟨a, e, q⟩
theorem dL_mk {a : Addr} {n : Nat} {f : Nat → Int} (h : SqL K H a (VI n f)) : Rep K H (.ref a) (dL n f) := ⟨a, _, rfl, h, reps_nums.mpr rfl⟩
theorem dT_sq {v : V} {h w : Nat} {f : Nat → Nat → Int} (r : Rep K H v (dT h w f)) : ∃ a us, v = .ref a ∧ SqL K H a us ∧ us.length = h ∧ ∀ i u, us[i]? = some u → i < h ∧ ∃ b, u = .ref b ∧ SqL K H b (VI w (f i)) := by
  obtain ⟨a, us, e, q, r⟩ := r
  have hl : us.length = h := by have := r.length; simpa using this
  refine ⟨a, us, e, q, hl, fun i u hu => ?_⟩
  have hi : i < h := by have := (List.getElem?_eq_some_iff.mp hu).1; omega
  obtain ⟨d, hd, rd⟩ := r.getV hu
  rw [List.getElem?_map, List.getElem?_range hi] at hd
  have e2 : d = dL w (f i) := (Option.some.inj hd).symm
  subst e2
  exact ⟨hi, dL_sq rd⟩
theorem dT_congr {h w : Nat} {f g : Nat → Nat → Int} (e : ∀ i j, i < h → j < w → f i j = g i j) : dT h w f = dT h w g := by
  unfold dT
  congr 1
  refine List.map_congr_left fun i hi => ?_
  unfold dL
  rw [lsI_congr fun j hj => e i j (List.mem_range.mp hi) hj]
theorem dep_dL (n : Nat) (f : Nat → Int) : dep (dL n f) = 1 := by show deps (nums _) + 1 = 1; rw [deps_nums]
theorem deps_dLs (w : Nat) (f : Nat → Nat → Int) : ∀ l : List Nat, deps (l.map fun i => dL w (f i)) ≤ 1
  | [] => Nat.zero_le _
  | x :: xs => by
    have h1 := deps_dLs w f xs
    have h2 := dep_dL w (f x)
    show max (dep (dL w (f x))) (deps (xs.map fun i => dL w (f i))) ≤ 1
    omega
theorem dep_dT (h w : Nat) (f : Nat → Nat → Int) : dep (dT h w f) ≤ 8 := by
  have := deps_dLs w f (List.range h)
  show deps _ + 1 ≤ 8
  omega
structure Rows (H H1 : Hp) (D : Addr) (as : List Addr) (w : Nat) (f : Nat → Nat → Int) : Prop where
  same : Same H H1
  free : H D = none
  «at» : H1 D = some (.lst (as.map V.ref))
  row : ∀ j a, as[j]? = some a → H a = none ∧ a ≠ D ∧ H1 a = some (.lst (VI w (f j)))
theorem Rows.nil {D : Addr} {w : Nat} {f : Nat → Nat → Int} (h : H D = none) : Rows H (upd H D (.lst [])) D [] w f := ⟨Same.new h, h, upd_same, fun j a e => by simp at e⟩
theorem Rows.push {D b : Addr} {as : List Addr} {w : Nat} {f : Nat → Nat → Int} (R : Rows H H1 D as w f) (hb : H1 b = none) (s : Same H1 H2) (h2 : H2 b = some (.lst (VI w (f as.length)))) : Rows H (upd H2 D (.lst (as.map V.ref ++ [.ref b]))) D (as ++ [b]) w f := by
  have hne : b ≠ D := fun z => by rw [z, R.at] at hb; cases hb
  refine ⟨(R.same.trans s).turn R.free, R.free, by rw [upd_same, List.map_append]; rfl, fun j a e => ?_⟩
  by_cases hj : j < as.length
  · rw [List.getElem?_append_left hj] at e
    obtain ⟨h1, h2', h3⟩ := R.row j a e
    exact ⟨h1, h2', by rw [upd_ne h2']; exact s _ _ h3⟩
  · have hl : j < (as ++ [b]).length := (List.getElem?_eq_some_iff.mp e).1
    have ej : j = as.length := by simp at hl; omega
    subst ej
    have eb : b = a := by simpa using e
    subst eb
    exact ⟨R.same.free hb, hne, by rw [upd_ne hne]; exact h2⟩
theorem Rows.rep {D : Addr} {as : List Addr} {h w : Nat} {f : Nat → Nat → Int} (R : Rows H H1 D as w f) (hl : as.length = h) : Rep K H1 (.ref D) (dT h w f) := by
  refine ⟨D, _, rfl, .of R.at, ?_⟩
  subst hl
  have go : ∀ (bs : List Addr) (n : Nat), (∀ j a, bs[j]? = some a → H1 a = some (.lst (VI w (f (n + j))))) → Reps K H1 (bs.map V.ref) ((List.range' n bs.length).map fun i => dL w (f i)) := by
    intro bs
    induction bs with
    | nil => intro n _; rfl
    | cons b bs ih =>
      intro n hr
      refine ⟨.ref b, bs.map V.ref, rfl, dL_mk (.of ?_), ?_⟩
      · have := hr 0 b rfl
        simpa using this
      · refine ih (n + 1) fun j a e => ?_
        have := hr (j + 1) a (by simpa using e)
        rw [show n + 1 + j = n + (j + 1) by omega]
        exact this
  have := go as 0 fun j a e => by rw [Nat.zero_add]; exact (R.row j a e).2.2
  rw [List.range_eq_range']
  exact this
theorem comp_zip0 {g : TG} {te : TE} {D : Addr} {Q : Hp → Prop} {τ : St} {H : Hp} {K : PySem.W.Frag} {a b : Addr} {xs ys : List V} {n : Nat} (hn : n = min xs.length ys.length) (Pv : Nat → List V → St → Hp → Prop) (h0 : Pv 0 [] τ H) (hl : ∀ i zs τ H, i ≤ n → Pv i zs τ H → SqL K H a xs ∧ SqL K H b ys)
    (hs : ∀ i x y zs τ H p, xs[i]? = some x → ys[i]? = some y → Pv i zs τ H → H p = none → g (.ref p) τ (upd H p (.tup [x, y])) fun τ2 H2 => te τ2 H2 fun y H4 => H4 D = some (.lst zs) ∧ zs.length < sizeLine ∧ Pv (i + 1) (zs ++ [y]) τ2 (upd H4 D (.lst (zs ++ [y]))))
    (hd : ∀ zs τ H, Pv n zs τ H → Q H) : RunC (Itz K a b) g tYes te D Q τ H := comp_zip hn Pv h0 hl (fun i x y zs τ H p e1 e2 pp hp => hs i x y zs τ H p e1 e2 pp hp) hd
end

def spreadV (ns : List Int) (k : Int) : Int := if k < (ns.length : Int) then ns.getD k.toNat 0 else if ns.length = 0 then k * k + 3 * k else ns.getD (k % (ns.length : Int)).toNat 0 * (48271 + k * k) + k
def numV (c kind : Int) : Int :=
  if kind % 4 = 3 then (c * (1000003 : Int) ^ (9 : Int).toNat + c) % (2 * (10 : Int) ^ (59 : Int).toNat + 1) - (10 : Int) ^ (59 : Int).toNat
  else if kind % 4 = 2 then c * 48271 % 2000003 - 1000001
  else if kind % 4 = 1 then c % 7 - 3
  else (c % 9 - 4) * (c / 9 % 2)
theorem getD_bd {ns : List Int} {m : Nat} (h : ∀ x ∈ ns, x.natAbs < 2 ^ m) (i : Nat) : (ns.getD i 0).natAbs < 2 ^ m := by
  by_cases hi : i < ns.length
  · rw [List.getD_eq_getElem?_getD, List.getElem?_eq_getElem hi]
    exact h _ (List.getElem_mem hi)
  · rw [List.getD_eq_getElem?_getD, List.getElem?_eq_none (by omega)]
    exact Nat.pow_pos (by decide)
theorem spread_bd {ns : List Int} (h : ∀ x ∈ ns, x.natAbs < 2 ^ cellBits) {k : Int} (h0 : 0 ≤ k) (h1 : k ≤ 100000) : (spreadV ns k).natAbs < 2 ^ (cellBits + 65) := by
  have kb : k.natAbs < 2 ^ 32 := by have : k.natAbs ≤ 100000 := by omega
                                    exact Nat.lt_of_le_of_lt this (by decide)
  have kk : (k * k).natAbs < 2 ^ 64 := bd_mul kb kb
  unfold spreadV
  split
  · exact bd_mono (getD_bd h _) (Nat.le_add_right _ _)
  · split
    · have h3 : (3 * k).natAbs < 2 ^ 64 := by
        have : (3 * k).natAbs ≤ 300000 := by omega
        exact Nat.lt_of_le_of_lt this (by decide)
      exact bd_mono (bd_add kk h3) (Nat.le_add_left _ _)
    · have h4 : (48271 + k * k).natAbs < 2 ^ 64 := by
        have h5 : k * k ≤ 100000 * 100000 := Int.mul_le_mul h1 h1 h0 (by decide)
        have h6 : 0 ≤ k * k := Int.mul_nonneg h0 h0
        have : (48271 + k * k).natAbs ≤ 10000048271 := by omega
        exact Nat.lt_of_le_of_lt this (by decide)
      exact bd_add (bd_mul (getD_bd h _) h4) (bd_mono kb (Nat.le_trans (by decide) (Nat.le_add_left 64 cellBits)))
theorem num_bd (c kind : Int) : (numV c kind).natAbs < 2 ^ 200 := by
  unfold numV
  split
  · generalize c * (1000003 : Int) ^ (9 : Int).toNat + c = z
    have e : (10 : Int) ^ (59 : Int).toNat = 100000000000000000000000000000000000000000000000000000000000 := by decide +kernel
    rw [e]
    have h1 := Int.emod_nonneg z (b := 2 * 100000000000000000000000000000000000000000000000000000000000 + 1) (by decide)
    have h2 := Int.emod_lt_of_pos z (b := 2 * 100000000000000000000000000000000000000000000000000000000000 + 1) (by decide)
    generalize z % (2 * 100000000000000000000000000000000000000000000000000000000000 + 1) = y at h1 h2
    have : (y - 100000000000000000000000000000000000000000000000000000000000).natAbs ≤ 100000000000000000000000000000000000000000000000000000000000 := by omega
    exact Nat.lt_of_le_of_lt this (by decide +kernel)
  · split
    · have : (c * 48271 % 2000003 - 1000001).natAbs ≤ 2000003 := by omega
      exact Nat.lt_of_le_of_lt this (by decide +kernel)
    · split
      · have : (c % 7 - 3).natAbs ≤ 10 := by omega
        exact Nat.lt_of_le_of_lt this (by decide +kernel)
      · have h1 : (c % 9 - 4).natAbs < 2 ^ 4 := by
          have : (c % 9 - 4).natAbs ≤ 10 := by omega
          exact Nat.lt_of_le_of_lt this (by decide)
        have h2 : (c / 9 % 2).natAbs < 2 ^ 4 := by
          have : (c / 9 % 2).natAbs ≤ 2 := by omega
          exact Nat.lt_of_le_of_lt this (by decide)
        exact bd_mono (bd_mul h1 h2) (by decide)

def newL (H : Hp) (n : Nat) (f : Nat → Int) (Q : V → Hp → Prop) : Prop := ∀ (D : Addr) (H' : Hp), H D = none → Same H H' → H' D = some (.lst (VI n f)) → Q (.ref D) H'
def newT (H : Hp) (h w : Nat) (f : Nat → Nat → Int) (Q : V → Hp → Prop) : Prop := ∀ (D : Addr) (as : List Addr) (H' : Hp), as.length = h → Rows H H' D as w f → Q (.ref D) H'
end Hb

set_option Elab.async false
set_option linter.all false
set_option maxRecDepth 100000
set_option maxHeartbeats 4000000
namespace Hb
open PySem L2
section
variable (K : PySem.W.Frag)
def sp_lawB : Sp := fun vs H Q _ => ∃ (a : Addr) (ns : List Int), vs = [.ref a] ∧ SqL K H a (ns.map V.int) ∧ ns.length ≤ 63 ∧ (∀ x ∈ ns, x.natAbs < 2 ^ cellBits) ∧ ∀ H', Q (.bl true) H'
def sp_mixed : Sp := fun vs H Q _ => ∃ (a b : Int) (x y : Addr) (n : Nat) (p q : Nat → Int), vs = [.int a, .ref x, .int b, .ref y] ∧ SqL K H x (VI n p) ∧ SqL K H y (VI n q) ∧ n ≤ 1000 ∧ (∀ j, j < n → IntMulOk a (p j) ∧ IntMulOk b (q j)) ∧ newL H n (fun j => a * p j + b * q j) Q
def sp_list_times : Sp := fun vs H Q _ => ∃ (x : Addr) (v : V) (h w : Nat) (a : Nat → Int) (f : Nat → Nat → Int), vs = [.ref x, v, .int w] ∧ SqL K H x (VI h a) ∧ Rep K H v (dT h w f) ∧ h ≤ 1000 ∧ w ≤ 1000 ∧ (∀ k j, k < h → j < w → IntMulOk (a k) (f k j)) ∧ newL H w (fun j => sumN (fun k => a k * f k j) h) Q
def sp_product : Sp := fun vs H Q _ => ∃ (u v : V) (h d w : Nat) (f g : Nat → Nat → Int), vs = [u, v, .int w] ∧ Rep K H u (dT h d f) ∧ Rep K H v (dT d w g) ∧ h ≤ 1000 ∧ d ≤ 1000 ∧ w ≤ 1000 ∧ (∀ i k j, i < h → k < d → j < w → IntMulOk (f i k) (g k j)) ∧ newT H h w (fun i j => sumN (fun k => f i k * g k j) d) Q
def sp_column : Sp := fun vs H Q _ => ∃ (v : V) (h w j : Nat) (f : Nat → Nat → Int), vs = [v, .int j] ∧ Rep K H v (dT h w f) ∧ h ≤ 1000 ∧ j < w ∧ newL H h (fun i => f i j) Q
def sp_flipped : Sp := fun vs H Q _ => ∃ (v : V) (h w : Nat) (f : Nat → Nat → Int), vs = [v, .int w] ∧ Rep K H v (dT h w f) ∧ h ≤ 1000 ∧ w ≤ 1000 ∧ newT H w h (fun i j => f j i) Q
def sp_one_row (_K : PySem.W.Frag) : Sp := fun vs H Q _ => ∃ n i : Nat, vs = [.int n, .int i] ∧ n ≤ 1000 ∧ newL H n (fun j => if j = i then 1 else 0) Q
def sp_ones (_K : PySem.W.Frag) : Sp := fun vs H Q _ => ∃ n : Nat, vs = [.int n] ∧ n ≤ 1000 ∧ newT H n n (fun i j => if j = i then 1 else 0) Q
def sp_times_list : Sp := fun vs H Q _ => ∃ (v : V) (x : Addr) (h w : Nat) (f : Nat → Nat → Int) (a : Nat → Int), vs = [v, .ref x] ∧ Rep K H v (dT h w f) ∧ SqL K H x (VI w a) ∧ h ≤ 1000 ∧ w ≤ 1000 ∧ (∀ i k, i < h → k < w → IntMulOk (f i k) (a k)) ∧ newL H h (fun i => sumN (fun k => f i k * a k) w) Q
def sp_L_spread : Sp := fun vs H Q _ => ∃ (a : Addr) (ns : List Int) (k : Int), vs = [.ref a, .int k] ∧ SqL K H a (ns.map V.int) ∧ 0 ≤ k ∧ k ≤ 100000 ∧ ns.length ≤ 63 ∧ Q (.int (spreadV ns k)) H
def sp_L_number_by (_K : PySem.W.Frag) : Sp := fun vs H Q _ => ∃ (c kind : Int), vs = [.int c, .int kind] ∧ c.natAbs < 2 ^ (cellBits + 65) ∧ Q (.int (numV c kind)) H
def sp_L_table_by : Sp := fun vs H Q _ => ∃ (a : Addr) (ns : List Int) (b h w : Nat) (kind : Int), vs = [.ref a, .int b, .int h, .int w, .int kind] ∧ SqL K H a (ns.map V.int) ∧ ns.length ≤ 63 ∧ (∀ x ∈ ns, x.natAbs < 2 ^ cellBits) ∧ b ≤ 10000 ∧ h ≤ 60 ∧ w ≤ 60 ∧
  newT H h w (fun i j => numV (spreadV ns ((b + i * w + j : Nat) : Int)) kind) Q
def sp_L_is_table : Sp := fun vs H Q _ => ∃ (v : V) (h w : Nat) (f : Nat → Nat → Int), vs = [v, .int h, .int w] ∧ Rep K H v (dT h w f) ∧ Q (.bl true) H
def sp_L_copy : Sp := fun vs H Q _ => ∃ (v : V) (h w : Nat) (f : Nat → Nat → Int), vs = [v] ∧ Rep K H v (dT h w f) ∧ h ≤ 1000 ∧ newT H h w f Q
abbrev sp_L_product_by : Sp := sp_product K
def sp_L_is_list : Sp := fun vs H Q _ => ∃ (v : V) (n : Nat) (f : Nat → Int), vs = [v, .int n] ∧ Rep K H v (dL n f) ∧ Q (.bl true) H
def sp_L_one_by (_K : PySem.W.Frag) : Sp := fun vs H Q _ => ∃ n : Nat, vs = [.int n] ∧ n ≤ 1000 ∧ newT H n n (fun i j => if j = i then 1 else 0) Q
def sp_L_summed : Sp := fun vs H Q _ => ∃ (x y : Addr) (n : Nat) (a b : Nat → Int), vs = [.ref x, .ref y] ∧ SqL K H x (VI n a) ∧ SqL K H y (VI n b) ∧ n ≤ 1000 ∧ (∀ k, k < n → IntMulOk (a k) (b k)) ∧ Q (.int (sumN (fun k => a k * b k) n)) H
end
end Hb

set_option Elab.async false
set_option linter.all false
set_option maxRecDepth 100000
set_option maxHeartbeats 4000000

namespace L2
open PySem PySem.Spec PyProof.Rows
structure HasM (P : Program) (w : World) (K : PySem.W.Frag) (mg : Str → Option Value) (base : Heap) (C : Addr) (m : Str) (ps : List Str) (k : Nat) (sp : Sp) : Prop where
  ex : ∃ (f : Addr) (fd : FuncData), Meth K C m f ∧ Binds K fd ps [] ∧ FnOk P w K mg base CX0 k f fd ps sp
structure HasC (P : Program) (w : World) (K : PySem.W.Frag) (mg : Str → Option Value) (base : Heap) (C : Addr) (ps : List Str) (k : Nat) (sp : Sp) : Prop where
  ex : ∃ (f : Addr) (fd : FuncData), Mk K C f ∧ Binds K fd ps [] ∧ FnOk P w K mg base CX0 k f fd ps sp
section
variable {X : Cx} {K : PySem.W.Frag} {j k : Nat} {C : Addr} {ps : List Str} {sp : Sp} {x m f : Str} {p pos apos pos' : Pos} {e o value : Expr} {es : List Expr} {ta tv : TE} {t : TA}
theorem pe_methH {pl : Sem Bool} (he : PE X o ta) (c : Cls X.K C) (h : HasM X.prog X.w X.K X.mg X.base C m ps j sp) (hr : Room k X.A) (ha : PA X (e :: es) t) (hk : j ≤ k := by decide)
    (hst : starEach (e :: es) X.env = (false, eval e X.env) :: starEach es X.env := by rfl) (hpl : (backTo pos (starEach es X.env)).any (·.1) = false := by rfl)
    (ht : eval (.Call (.Attribute o m apos) (e :: es) [] pos) X.env = (do
      let ov ← eval o X.env
      standAt apos.atName
      let (f, first) ← holding [ov] (getMethod ov m pl)
      callWith pos f first (backTo pos (starEach (e :: es) X.env)) (backToKw pos (keywordEach [] X.env))) := by rfl) :
    PE X (.Call (.Attribute o m apos) (e :: es) [] pos) (tMeth C m sp [] E0 ta t) := by
  obtain ⟨f, fd, h1, h2, h3⟩ := h.ex
  exact pe_meth he c h1 h3 (hr.mono hk) h2 .nil pass0 ha hst hpl ht
theorem pe_methH0 {pl : Sem Bool} (he : PE X o ta) (c : Cls X.K C) (h : HasM X.prog X.w X.K X.mg X.base C m ps j sp) (hr : Room k X.A) (hk : j ≤ k := by decide)
    (ht : eval (.Call (.Attribute o m apos) [] [] pos) X.env = (do
      let ov ← eval o X.env
      standAt apos.atName
      let (f, first) ← holding [ov] (getMethod ov m pl)
      callWith pos f first (backTo pos (starEach [] X.env)) (backToKw pos (keywordEach [] X.env))) := by rfl) :
    PE X (.Call (.Attribute o m apos) [] [] pos) (tMeth C m sp [] E0 ta tNil) := by
  obtain ⟨f, fd, h1, h2, h3⟩ := h.ex
  exact pe_meth0 he c h1 h3 (hr.mono hk) h2 .nil pass0 ht
theorem pe_makeH (h : HasC X.prog X.w X.K X.mg X.base C ps j sp) (hr : Room k X.A) (hg : Gl X x) (hm : X.mg x = some (.ref C)) (ha : PA X (e :: es) t) (hk : j + 1 ≤ k := by decide) (hdb : (x == ("__debug__" : Str)) = false := by decide)
    (he : starEach (e :: es) X.env = (false, eval e X.env) :: starEach es X.env := by rfl) (hpl : (backTo pos (starEach es X.env)).any (·.1) = false := by rfl) : PE X (.Call (.Name x p) (e :: es) [] pos) (tMake C sp [] E0 t) := by
  obtain ⟨f, fd, h1, h2, h3⟩ := h.ex
  exact pe_make h1 h3 (hr.mono hk) hg hm h2 .nil pass0 ha hdb he hpl
theorem kpe_fld (he : PE X e ta) (hK : X.K = K := by rfl) (hb : attributeBase e f X.env (eval e X.env) = eval e X.env := by rfl) : PE X (.Attribute e f pos) (tFld K ta f) := by subst hK; exact pe_fld he hb
theorem kps_fld (ha : PE X o ta) (hv : PE X value tv) (hK : X.K = K := by rfl) (hs : swapsWith value (some (.Attribute o f pos')) pos.line X.env = pure false := by rfl) : PS X (.Assign [.Attribute o f pos'] value pos) (sFld K ta tv f) := by subst hK; exact ps_fld ha hv hs
theorem kpe_bm0 {T id : String} {name : Str} {cpos : Pos} {r : V → List V → Hp → VK → Prop} (pa : PlainAttrs T) (slot : Slot T name id) (hty : typeOf (.builtin id) = pure (.type "method_descriptor")) (hm : MtR X id r) (ho : PE X o ta) (hK : X.K = K := by rfl)
    (hbase : attributeBase o name X.env (eval o X.env) = eval o X.env := by rfl) (hline : (apos.endLine == cpos.line) = true := by rfl) : PE X (.Call (.Attribute o name apos) [] [] cpos) (tBM0 K T r ta) := by subst hK; exact pe_bm0 pa slot hty hm ho hbase hline
end
end L2

set_option Elab.async false
set_option linter.all false
set_option maxRecDepth 100000
set_option maxHeartbeats 4000000

namespace L2
open PySem PySem.Spec PyProof.Rows
abbrev TJ := St → Hp → (Hp → Prop) → Prop
def tJN : TJ := fun _ H Q => Q H
def tJC (te : TE) (tj : TJ) : TJ := fun σ H Q => te σ H fun v H1 => ∃ y : Str, v = .str y ∧ y.length ≤ 100000 ∧ tj σ H1 Q
def PJ (X : Cx) (es : List Expr) (tj : TJ) : Prop := ∀ (pins : List (Addr × Obj)) (s : Shared) (σ : St) (H : Hp) (acc : Str) (Q : Hp → Prop), Inv X pins σ H s → acc.length + 100000 * es.length ≤ 1000000 → tj σ H Q →
  Joins (model X.prog X.w) X.A X.xe (evalEach es X.env) acc (fun out s' => out.length ≤ 1000000 ∧ ∃ H', Inv X pins σ H' s' ∧ Q H') s
section
variable {X : Cx} {e v₁ v₂ : Expr} {es rest : List Expr} {te : TE} {tj : TJ} {pos : Pos}
def tFstr (tj : TJ) : TE := fun σ H Q => tj σ H fun H' => ∀ x : Str, x.length ≤ 1000000 → Q (.str x) H'
def tFmt (te : TE) : TE := fun σ H Q => te σ H fun v H1 => (∃ i : Int, v = .int i ∧ i.natAbs.log2 < 1920 ∧ ∀ x : Str, x.length ≤ 100000 → Q (.str x) H1) ∨ ∃ x : Str, v = .str x ∧ x.length ≤ 100000 ∧ Q (.str x) H1
end
end L2

set_option Elab.async false
set_option linter.all false
set_option maxRecDepth 100000
set_option maxHeartbeats 4000000

namespace Hb
open PySem L2
inductive Tn where
  | mi (i : Nat) | sw (i j : Nat) | ad (i j : Nat) (n : Int)
def dTn : Tn → L2.D
  | .mi i => .tup [.str "minus", .int i]
  | .sw i j => .tup [.str "swap", .int i, .int j]
  | .ad i j n => .tup [.str "add", .int i, .int j, .int n]
def okTn (m : Nat) : Tn → Prop
  | .mi i => i < m
  | .sw i j => i < m ∧ j < m ∧ i ≠ j
  | .ad i j _ => i < m ∧ j < m ∧ i ≠ j
def tnF : Tn → (Nat → Nat → Int) → Nat → Nat → Int
  | .mi i, f => fun r c => if r = i then -(f i c) else f r c
  | .sw i j, f => fun r c => if r = j then f i c else if r = i then f j c else f r c
  | .ad i j n, f => fun r c => if r = i then 1 * f i c + n * f j c else f r c
def tnB : Tn → Tn
  | .ad i j n => .ad i j (-n)
  | t => t
def tnA : Tn → Tn
  | .ad i j n => .ad j i (-n)
  | t => t
def tnC (t : Tn) (f : Nat → Nat → Int) : Nat → Nat → Int := fun r c => tnF t (fun a b => f b a) c r
theorem okTn_back {m : Nat} {t : Tn} (h : okTn m t) : okTn m (tnB t) := by cases t <;> exact h
theorem okTn_across {m : Nat} {t : Tn} (h : okTn m t) : okTn m (tnA t) := by
  cases t with
  | ad i j n => exact ⟨h.2.1, h.1, fun z => h.2.2 z.symm⟩
  | mi i => exact h
  | sw i j => exact h
theorem tnF_back {m : Nat} {t : Tn} (h : okTn m t) (f : Nat → Nat → Int) (r c : Nat) : tnF (tnB t) (tnF t f) r c = f r c := by
  cases t with
  | mi i =>
    simp only [tnB, tnF]
    by_cases e : r = i
    · subst e; simp
    · simp [e]
  | sw i j =>
    have hij : i ≠ j := h.2.2
    simp only [tnB, tnF]
    by_cases e1 : r = j
    · subst e1; simp [hij]
    · by_cases e2 : r = i
      · subst e2; simp [e1]
      · simp [e1, e2]
  | ad i j n =>
    have hij : i ≠ j := h.2.2
    have hji : ¬ j = i := fun z => hij z.symm
    simp only [tnB, tnF]
    by_cases e : r = i
    · subst e
      simp only [if_true, if_neg hji, Int.one_mul, Int.neg_mul]
      omega
    · simp [e]
theorem tnF_congr {t : Tn} {m : Nat} {f g : Nat → Nat → Int} (ht : okTn m t) {c : Nat} (h : ∀ r, r < m → f r c = g r c) {r : Nat} (hr : r < m) : tnF t f r c = tnF t g r c := by
  cases t with
  | mi i => simp only [tnF, h i ht, h r hr]
  | sw i j => simp only [tnF, h i ht.1, h j ht.2.1, h r hr]
  | ad i j n => simp only [tnF, h i ht.1, h j ht.2.1, h r hr]
def bT (B : Nat) (f : Nat → Nat → Int) : Prop := ∀ r c, (f r c).natAbs < 2 ^ B
def tB (B : Nat) : Tn → Prop
  | .ad _ _ n => n.natAbs < 2 ^ B
  | _ => True
theorem bT.mono {B B' : Nat} {f : Nat → Nat → Int} (h : bT B f) (hb : B ≤ B') : bT B' f := fun r c => bd_mono (h r c) hb
theorem tB.mono {B B' : Nat} {t : Tn} (h : tB B t) (hb : B ≤ B') : tB B' t := by
  cases t with
  | ad i j n => exact bd_mono (show n.natAbs < 2 ^ B from h) hb
  | _ => trivial
theorem tB.back {B : Nat} {t : Tn} (h : tB B t) : tB B (tnB t) := by
  cases t with
  | ad i j n => exact bd_neg (show n.natAbs < 2 ^ B from h)
  | _ => trivial
theorem tB.across {B : Nat} {t : Tn} (h : tB B t) : tB B (tnA t) := by
  cases t with
  | ad i j n => exact bd_neg (show n.natAbs < 2 ^ B from h)
  | _ => trivial
theorem bT.turn {B : Nat} {f : Nat → Nat → Int} {t : Tn} (h : bT B f) (ht : tB B t) : bT (B + B + 1) (tnF t f) := by
  intro r c
  have up : ∀ x : Int, x.natAbs < 2 ^ B → x.natAbs < 2 ^ (B + B + 1) := fun x hx => bd_mono hx (by omega)
  cases t with
  | mi i =>
    simp only [tnF]
    split
    · exact up _ (bd_neg (h i c))
    · exact up _ (h r c)
  | sw i j =>
    simp only [tnF]
    split
    · exact up _ (h i c)
    · split
      · exact up _ (h j c)
      · exact up _ (h r c)
  | ad i j n =>
    simp only [tnF]
    split
    · rw [Int.one_mul]
      exact bd_add (bd_mono (h i c) (by omega)) (bd_mul ht (h j c))
    · exact up _ (h r c)
theorem putF_len {f : Str} {v : V} : ∀ {fs : List (Str × V)} {x : V}, fs.lookup f = some x → (putF f v fs).length = fs.length
  | [], x, h => by cases h
  | (g, y) :: r, x, h => by
    unfold putF
    by_cases e : g = f
    · rw [if_pos e]; rfl
    · rw [if_neg e, List.length_cons, List.length_cons]
      rw [List.lookup_cons] at h
      have e2 : (f == g) = false := by simpa using fun z => e z.symm
      rw [e2] at h
      rw [putF_len h]
theorem putF_le {f : Str} {v : V} {fs : List (Str × V)} {n : Nat} (h : fs.length ≤ n) : (putF f v fs).length ≤ n + 1 := Nat.le_trans (length_putF f v fs) (by omega)

noncomputable def hide (H : Hp) (Z : Addr → Prop) : Hp := fun a => @ite _ (Z a) (Classical.propDecidable _) none (H a)
section
variable {K : PySem.W.Frag} {H H' H1 : Hp} {Z : Addr → Prop}
theorem hide_no {a : Addr} (h : ¬ Z a) : hide H Z a = H a := by unfold hide; rw [if_neg h]
theorem hide_yes {a : Addr} (h : Z a) : hide H Z a = none := by unfold hide; rw [if_pos h]
theorem hide_same : Same (hide H Z) H := fun a o e => by
  by_cases h : Z a
  · rw [hide_yes h] at e; cases e
  · rw [hide_no h] at e; exact e
theorem hide_mono (h : ∀ a o, ¬ Z a → H a = some o → H' a = some o) : Same (hide H Z) (hide H' Z) := fun a o e => by
  by_cases hz : Z a
  · rw [hide_yes hz] at e; cases e
  · rw [hide_no hz] at e ⊢; exact h a o hz e
theorem same_hid (s : Same H H') : Same (hide H Z) (hide H' Z) := hide_mono fun a o _ e => s a o e
theorem dT_mk {a : Addr} {us : List V} {h w : Nat} {f : Nat → Nat → Int} (hq : SqL K H a us) (hl : us.length = h) (hr : ∀ i, i < h → ∃ b, us[i]? = some (.ref b) ∧ SqL K H b (VI w (f i))) : Rep K H (.ref a) (dT h w f) := by
  refine ⟨a, us, rfl, hq, ?_⟩
  subst hl
  have go : ∀ (vs : List V) (n : Nat), (∀ j, j < vs.length → ∃ b, vs[j]? = some (.ref b) ∧ SqL K H b (VI w (f (n + j)))) → Reps K H vs ((List.range' n vs.length).map fun i => dL w (f i)) := by
    intro vs
    induction vs with
    | nil => intro n _; rfl
    | cons v vs ih =>
      intro n hv
      obtain ⟨b, e, hb⟩ := hv 0 (by simp)
      have ev : v = .ref b := by simpa using e
      subst ev
      refine ⟨.ref b, vs, rfl, dL_mk (by simpa using hb), ?_⟩
      refine ih (n + 1) fun j hj => ?_
      obtain ⟨b', e', hb'⟩ := hv (j + 1) (by simpa using hj)
      refine ⟨b', by simpa using e', ?_⟩
      rw [show n + 1 + j = n + (j + 1) by omega]
      exact hb'
  have := go us 0 fun j hj => by rw [Nat.zero_add]; exact hr j hj
  rw [List.range_eq_range']
  exact this
theorem Rows.hid {D : Addr} {as : List Addr} {h w : Nat} {f : Nat → Nat → Int} (R : Rows H H1 D as w f) (hl : as.length = h) (hz : ∀ a, Z a → H a ≠ none) : Rep K (hide H1 Z) (.ref D) (dT h w f) := by
  have nz : ∀ a, H a = none → ¬ Z a := fun a e z => hz a z e
  refine dT_mk (us := as.map V.ref) (.of ?_) (by rw [List.length_map]; exact hl) fun i hi => ?_
  · rw [hide_no (nz D R.free)]; exact R.at
  · have hi' : i < as.length := by omega
    obtain ⟨h1, _, h3⟩ := R.row i as[i] (List.getElem?_eq_getElem hi')
    refine ⟨as[i], by rw [List.getElem?_map, List.getElem?_eq_getElem hi']; rfl, .of ?_⟩
    rw [hide_no (nz _ h1)]
    exact h3
end

def LinesAt (CL : Addr) (H : Hp) (p : Addr) (r b : V) : Prop := ∃ dx fs, H p = some (.ins CL dx fs) ∧ fs.lookup ("rows" : Str) = some r ∧ fs.lookup ("backs" : Str) = some b ∧ fs.lookup ("turn" : Str) = none ∧ fs.length ≤ 10
def dDone (q : Bool × Tn) : L2.D := .tup [.bl q.1, dTn q.2]
structure TObj (K : PySem.W.Frag) (CT : Addr) (H : Hp) (p : Addr) (tb : V) (w : Nat) (L R dn : Addr) : Prop where
  ex : ∃ dx fs, H p = some (.ins CT dx fs) ∧ fs.lookup ("table" : Str) = some tb ∧ fs.lookup ("width" : Str) = some (.int w) ∧ fs.lookup ("left" : Str) = some (.ref L) ∧ fs.lookup ("right" : Str) = some (.ref R) ∧ fs.lookup ("done" : Str) = some (.ref dn) ∧
    (fs.lookup ("turn_rows" : Str) = none ∧ fs.lookup ("turn_columns" : Str) = none ∧ fs.lookup ("do_rows" : Str) = none ∧ fs.lookup ("do_columns" : Str) = none ∧ fs.lookup ("take_back" : Str) = none ∧ fs.lookup ("many" : Str) = none ∧ fs.lookup ("now" : Str) = none) ∧ fs.length ≤ 20
structure LinesOk (K : PySem.W.Frag) (CL : Addr) (H : Hp) (Z : Addr → Prop) (L : Addr) (m B : Nat) : Prop where
  ex : ∃ r b g g', LinesAt CL H L r b ∧ Rep K (hide H Z) r (dT m m g) ∧ Rep K (hide H Z) b (dT m m g') ∧ bT B g ∧ bT B g'
structure TurnerAt (K : PySem.W.Frag) (CL CT : Addr) (H : Hp) (Z : Addr → Prop) (p L R dn : Addr) (h w : Nat) (f : Nat → Nat → Int) (ds : List (Bool × Tn)) (B : Nat) : Prop where
  ob : ∃ tb, TObj K CT H p tb w L R dn ∧ Rep K (hide H Z) tb (dT h w f)
  lf : LinesOk K CL H Z L h B
  rt : LinesOk K CL H Z R w B
  dl : ∃ us, H dn = some (.lst us) ∧ Reps K H us (ds.map dDone)
  bf : bT B f
  bd : ∀ q ∈ ds, tB B q.2 ∧ okTn (if q.1 then h else w) q.2
  ne : p ≠ L ∧ p ≠ R ∧ p ≠ dn ∧ L ≠ R ∧ L ≠ dn ∧ R ≠ dn
  z : Z p ∧ Z L ∧ Z R ∧ Z dn
  zh : ∀ a, Z a → H a ≠ none
  sm : h ≤ 60 ∧ w ≤ 60 ∧ ds.length ≤ 1000

def Fr4 (p L R dn : Addr) (H H' : Hp) : Prop := ∀ a o, a ≠ p → a ≠ L → a ≠ R → a ≠ dn → H a = some o → H' a = some o
theorem Fr4.refl (p L R dn : Addr) (H : Hp) : Fr4 p L R dn H H := fun _ _ _ _ _ _ e => e
theorem Fr4.trans {p L R dn : Addr} {H H1 H2 : Hp} (x : Fr4 p L R dn H H1) (y : Fr4 p L R dn H1 H2) : Fr4 p L R dn H H2 := fun a o n1 n2 n3 n4 e => y a o n1 n2 n3 n4 (x a o n1 n2 n3 n4 e)
theorem Fr4.of {p L R dn : Addr} {H H1 : Hp} (s : Same H H1) : Fr4 p L R dn H H1 := fun a o _ _ _ _ e => s a o e
section
variable (K : PySem.W.Frag)
def sp_copied : Sp := sp_L_copy K
def sp_is_list_of_wholes : Sp := fun vs H Q _ => ∃ (a : Addr) (n : Nat) (f : Nat → Int), vs = [.ref a, .int n] ∧ SqL K H a (VI n f) ∧ n ≤ 1000 ∧ ∀ H', Same H H' → Q (.bl true) H'
def sp_is_table : Sp := fun vs H Q _ => ∃ (v : V) (h w : Nat) (f : Nat → Nat → Int), vs = [v, .int w] ∧ Rep K H v (dT h w f) ∧ h ≤ 40 ∧ w ≤ 1000 ∧ ∀ H', Same H H' → Q (.bl true) H'
def sp_turned : Sp := fun vs H Q _ => ∃ (v u : V) (Z : Addr → Prop) (h w B : Nat) (f : Nat → Nat → Int) (t : Tn), vs = [v, u] ∧ Rep K (hide H Z) v (dT h w f) ∧ (∀ a, Z a → H a ≠ none) ∧ Rep K H u (dTn t) ∧ okTn h t ∧ bT B f ∧ tB B t ∧ B ≤ 1000000 ∧ h ≤ 1000 ∧ w ≤ 1000 ∧
  ∀ (D : Addr) (H' : Hp), H D = none → Same H H' → Rep K (hide H' Z) (.ref D) (dT h w (tnF t f)) → Q (.ref D) H'
def sp_across : Sp := fun vs H Q _ => ∃ (u : V) (t : Tn), vs = [u] ∧ Rep K H u (dTn t) ∧ ∀ (v : V) (H' : Hp), Same H H' → Rep K H' v (dTn (tnA t)) → Q v H'
def sp_back_of : Sp := fun vs H Q _ => ∃ (u : V) (t : Tn), vs = [u] ∧ Rep K H u (dTn t) ∧ ∀ (v : V) (H' : Hp), Same H H' → Rep K H' v (dTn (tnB t)) → Q v H'
def sp_are_two_lines (_K : PySem.W.Frag) : Sp := fun vs H Q _ => ∃ i j m : Nat, vs = [.int i, .int j, .int m] ∧ i < m ∧ j < m ∧ i ≠ j ∧ Q (.bl true) H
def sp_is_turn : Sp := fun vs H Q _ => ∃ (u : V) (t : Tn) (m : Nat), vs = [u, .int m] ∧ Rep K H u (dTn t) ∧ okTn m t ∧ Q (.bl true) H
def sp_check_turn : Sp := fun vs H Q _ => ∃ (u : V) (t : Tn) (m : Nat), vs = [u, .int m] ∧ Rep K H u (dTn t) ∧ okTn m t ∧ Q .non H
variable (CL CT : Addr)
def sp_Lines__init_ (_K : PySem.W.Frag) (CL CT : Addr) : Sp := fun vs H Q _ => ∃ (p dx : Addr) (r b : V), vs = [.ref p, r, b] ∧ H p = some (.ins CL dx []) ∧ ∀ H', SameX p H H' → LinesAt CL H' p r b → Q .non H'
def sp_Lines_turn (K : PySem.W.Frag) (CL CT : Addr) : Sp := fun vs H Q _ => ∃ (p : Addr) (u : V) (Z : Addr → Prop) (m B : Nat) (t : Tn), vs = [.ref p, u] ∧ LinesOk K CL H Z p m B ∧ Z p ∧ (∀ a, Z a → H a ≠ none) ∧ Rep K H u (dTn t) ∧ okTn m t ∧ tB B t ∧ B ≤ 1000000 ∧ m ≤ 1000 ∧
  ∀ H', SameX p H H' → LinesOk K CL H' Z p m (B + B + 1) → (∀ a, H a ≠ none → H' a ≠ none) → Q .non H'
def sp_Turner__init_ (K : PySem.W.Frag) (CL CT : Addr) : Sp := fun vs H Q _ => ∃ (p dx : Addr) (v : V) (h w B : Nat) (f : Nat → Nat → Int), vs = [.ref p, v, .int w] ∧ H p = some (.ins CT dx []) ∧ Rep K H v (dT h w f) ∧ h ≤ 40 ∧ w ≤ 40 ∧ bT B f ∧ 1 ≤ B ∧
  ∀ (L R dn : Addr) (H' : Hp), H L = none → H R = none → H dn = none → SameX p H H' → TurnerAt K CL CT H' (fun a => H a ≠ none ∨ a = L ∨ a = R ∨ a = dn) p L R dn h w f [] B → Q .non H'

def TurnerAfter (K : PySem.W.Frag) (CL CT : Addr) (H : Hp) (Z : Addr → Prop) (p L R dn : Addr) (h w : Nat) (f : Nat → Nat → Int) (ds : List (Bool × Tn)) (B : Nat) (Q : V → Hp → Prop) : Prop :=
  ∀ H', Fr4 p L R dn H H' → TurnerAt K CL CT H' Z p L R dn h w f ds B → Q .non H'
def sp_Turner_do_rows (K : PySem.W.Frag) (CL CT : Addr) : Sp := fun vs H Q _ => ∃ (p L R dn : Addr) (u : V) (Z : Addr → Prop) (h w B : Nat) (f : Nat → Nat → Int) (ds : List (Bool × Tn)) (t : Tn), vs = [.ref p, u] ∧ TurnerAt K CL CT H Z p L R dn h w f ds B ∧ Rep K H u (dTn t) ∧ okTn h t ∧ tB B t ∧ B ≤ 1000000 ∧
  TurnerAfter K CL CT H Z p L R dn h w (tnF t f) ds (B + B + 1) Q
def sp_Turner_do_columns (K : PySem.W.Frag) (CL CT : Addr) : Sp := fun vs H Q _ => ∃ (p L R dn : Addr) (u : V) (Z : Addr → Prop) (h w B : Nat) (f : Nat → Nat → Int) (ds : List (Bool × Tn)) (t : Tn), vs = [.ref p, u] ∧ TurnerAt K CL CT H Z p L R dn h w f ds B ∧ Rep K H u (dTn t) ∧ okTn w t ∧ tB B t ∧ B ≤ 1000000 ∧
  TurnerAfter K CL CT H Z p L R dn h w (tnC t f) ds (B + B + 1) Q
def sp_Turner_turn_rows (K : PySem.W.Frag) (CL CT : Addr) : Sp := fun vs H Q _ => ∃ (p L R dn : Addr) (u : V) (Z : Addr → Prop) (h w B : Nat) (f : Nat → Nat → Int) (ds : List (Bool × Tn)) (t : Tn), vs = [.ref p, u] ∧ TurnerAt K CL CT H Z p L R dn h w f ds B ∧ Rep K H u (dTn t) ∧ okTn h t ∧ tB B t ∧ B ≤ 1000000 ∧ ds.length < 1000 ∧
  TurnerAfter K CL CT H Z p L R dn h w (tnF t f) (ds ++ [(true, t)]) (B + B + 1) Q
def sp_Turner_turn_columns (K : PySem.W.Frag) (CL CT : Addr) : Sp := fun vs H Q _ => ∃ (p L R dn : Addr) (u : V) (Z : Addr → Prop) (h w B : Nat) (f : Nat → Nat → Int) (ds : List (Bool × Tn)) (t : Tn), vs = [.ref p, u] ∧ TurnerAt K CL CT H Z p L R dn h w f ds B ∧ Rep K H u (dTn t) ∧ okTn w t ∧ tB B t ∧ B ≤ 1000000 ∧ ds.length < 1000 ∧
  TurnerAfter K CL CT H Z p L R dn h w (tnC t f) (ds ++ [(false, t)]) (B + B + 1) Q
def sp_Turner_take_back (K : PySem.W.Frag) (CL CT : Addr) : Sp := fun vs H Q _ => ∃ (p L R dn : Addr) (Z : Addr → Prop) (h w B : Nat) (f : Nat → Nat → Int) (ds : List (Bool × Tn)) (q : Bool × Tn), vs = [.ref p] ∧ TurnerAt K CL CT H Z p L R dn h w f (ds ++ [q]) B ∧ B ≤ 1000000 ∧
  TurnerAfter K CL CT H Z p L R dn h w (if q.1 then tnF (tnB q.2) f else tnC (tnB q.2) f) ds (B + B + 1) Q
def sp_Turner_many (K : PySem.W.Frag) (CL CT : Addr) : Sp := fun vs H Q _ => ∃ (p L R dn : Addr) (Z : Addr → Prop) (h w B : Nat) (f : Nat → Nat → Int) (ds : List (Bool × Tn)), vs = [.ref p] ∧ TurnerAt K CL CT H Z p L R dn h w f ds B ∧ Q (.int ds.length) H
def sp_Turner_now (K : PySem.W.Frag) (CL CT : Addr) : Sp := fun vs H Q _ => ∃ (p L R dn : Addr) (Z : Addr → Prop) (h w B : Nat) (f : Nat → Nat → Int) (ds : List (Bool × Tn)), vs = [.ref p] ∧ TurnerAt K CL CT H Z p L R dn h w f ds B ∧ newT H h w f Q
end
section
variable {K : PySem.W.Frag} {CL CT : Addr} {H H' : Hp} {Z : Addr → Prop} {p L R dn : Addr} {h w B : Nat} {f : Nat → Nat → Int} {ds : List (Bool × Tn)}
theorem LinesAt.keep {r b : V} (x : LinesAt CL H p r b) (e : ∀ o, H p = some o → H' p = some o) : LinesAt CL H' p r b := by
  obtain ⟨dx, fs, h1, h2⟩ := x
  exact ⟨dx, fs, e _ h1, h2⟩
theorem LinesOk.keep {m : Nat} (x : LinesOk K CL H Z L m B) (e : ∀ o, H L = some o → H' L = some o) (s : Same (hide H Z) (hide H' Z)) : LinesOk K CL H' Z L m B := by
  obtain ⟨r, b, g, g', h1, h2, h3, h4⟩ := x.ex
  exact ⟨r, b, g, g', h1.keep e, Rep.same s h2, Rep.same s h3, h4⟩
theorem LinesOk.mono {m B' : Nat} (x : LinesOk K CL H Z L m B) (hb : B ≤ B') : LinesOk K CL H Z L m B' := by
  obtain ⟨r, b, g, g', h1, h2, h3, h4, h5⟩ := x.ex
  exact ⟨r, b, g, g', h1, h2, h3, h4.mono hb, h5.mono hb⟩
theorem TObj.keep {tb : V} (x : TObj K CT H p tb w L R dn) (e : ∀ o, H p = some o → H' p = some o) : TObj K CT H' p tb w L R dn := by
  obtain ⟨dx, fs, h1, h2⟩ := x.ex
  exact ⟨dx, fs, e _ h1, h2⟩

theorem TurnerAt.same (x : TurnerAt K CL CT H Z p L R dn h w f ds B) (s : Same H H') : TurnerAt K CL CT H' Z p L R dn h w f ds B := by
  obtain ⟨tb, h1, h2⟩ := x.ob
  obtain ⟨us, h3, h4⟩ := x.dl
  exact ⟨⟨tb, h1.keep fun o e => s _ _ e, Rep.same (same_hid s) h2⟩, x.lf.keep (fun o e => s _ _ e) (same_hid s), x.rt.keep (fun o e => s _ _ e) (same_hid s), ⟨us, s _ _ h3, Reps.same s h4⟩, x.bf, x.bd, x.ne, x.z,
    fun a ha e => x.zh a ha (s.free e), x.sm⟩
theorem TurnerAt.t (x : TurnerAt K CL CT H Z p L R dn h w f ds B) (fr : Fr4 p L R dn H H') : TSame H H' := by
  obtain ⟨tb, ⟨dx, fs, hp, _⟩, _⟩ := x.ob
  obtain ⟨r, b, g, g', ⟨dl, fl, hl, _⟩, _⟩ := x.lf.ex
  obtain ⟨r', b', g1, g1', ⟨dr, f2, hr, _⟩, _⟩ := x.rt.ex
  obtain ⟨us, hd, _⟩ := x.dl
  have go : ∀ a o, H a = some o → (∀ C d q, o ≠ .ins C d q) → (∀ q, o ≠ .lst q) → H' a = some o := fun a o e n1 n2 =>
    fr a o (ne_of e hp (n1 _ _ _)) (ne_of e hl (n1 _ _ _)) (ne_of e hr (n1 _ _ _)) (ne_of e hd (n2 _)) e
  exact ⟨fun a xs e => go a _ e (fun _ _ _ z => by cases z) (fun _ z => by cases z), fun a o u e => go a _ e (fun _ _ _ z => by cases z) (fun _ z => by cases z)⟩
theorem imms_done : ∀ ds : List (Bool × Tn), imms (ds.map dDone) = true
  | [] => rfl
  | q :: ds => by
    show (imm (dDone q) && imms (ds.map dDone)) = true
    rw [imms_done ds, Bool.and_true]
    obtain ⟨b, t⟩ := q
    cases t <;> rfl
theorem imm_dTn (t : Tn) : imm (dTn t) = true := by cases t <;> rfl
theorem TurnerAt.redo {B' : Nat} {f' : Nat → Nat → Int} (x : TurnerAt K CL CT H Z p L R dn h w f ds B) (fr : Fr4 p L R dn H H') (hB : B ≤ B') (ob : ∃ tb, TObj K CT H' p tb w L R dn ∧ Rep K (hide H' Z) tb (dT h w f')) (lf : LinesOk K CL H' Z L h B') (rt : LinesOk K CL H' Z R w B')
    (hdn : ∀ o, H dn = some o → H' dn = some o) (bf : bT B' f') (keep : ∀ a, H a ≠ none → H' a ≠ none) : TurnerAt K CL CT H' Z p L R dn h w f' ds B' := by
  obtain ⟨us, h1, h2⟩ := x.dl
  exact ⟨ob, lf, rt, ⟨us, hdn _ h1, Reps.t (x.t fr) (imms_done ds) h2⟩, bf, fun q hq => ⟨(x.bd q hq).1.mono hB, (x.bd q hq).2⟩, x.ne, x.z, fun a ha => keep a (x.zh a ha), x.sm⟩

theorem TurnerAt.redone {ds' : List (Bool × Tn)} {us' : List V} (x : TurnerAt K CL CT H Z p L R dn h w f ds B) (hr : Reps K H us' (ds'.map dDone)) (hb : ∀ q ∈ ds', tB B q.2 ∧ okTn (if q.1 then h else w) q.2) (hl : ds'.length ≤ 1000) :
    TurnerAt K CL CT (upd H dn (.lst us')) Z p L R dn h w f ds' B := by
  obtain ⟨n1, n2, n3, n4, n5, n6⟩ := x.ne
  obtain ⟨z1, z2, z3, z4⟩ := x.z
  obtain ⟨us, hd, _⟩ := x.dl
  have sh : Same (hide H Z) (hide (upd H dn (.lst us')) Z) := hide_mono fun a o n e => by
    have hap : a ≠ dn := fun z => n (by rw [z]; exact z4)
    rw [upd_ne hap]; exact e
  obtain ⟨tb, h1, h2⟩ := x.ob
  refine ⟨⟨tb, h1.keep fun o e => by rw [upd_ne n3]; exact e, Rep.same sh h2⟩, x.lf.keep (fun o e => by rw [upd_ne n5]; exact e) sh, x.rt.keep (fun o e => by rw [upd_ne n6]; exact e) sh, ⟨us', upd_same, Reps.t (TSame.lst hd) (imms_done ds') hr⟩, x.bf, hb, x.ne, x.z, fun a ha e => ?_, x.sm.1, x.sm.2.1, hl⟩
  by_cases hap : a = dn
  · rw [hap, upd_same] at e; cases e
  · rw [upd_ne hap] at e; exact x.zh a ha e
theorem reps_snoc {d : L2.D} : ∀ {as : List L2.D} {us : List V}, Reps K H us (as ++ [d]) → ∃ us0 y, us = us0 ++ [y] ∧ Reps K H us0 as ∧ Rep K H y d
  | [], us, h => by
    obtain ⟨v, r, rfl, h1, h2⟩ := h
    cases (show r = [] from h2)
    exact ⟨[], v, rfl, rfl, h1⟩
  | a :: as, us, h => by
    obtain ⟨v, r, rfl, h1, h2⟩ := h
    obtain ⟨us0, y, rfl, h3, h4⟩ := reps_snoc h2
    exact ⟨v :: us0, y, rfl, ⟨v, us0, rfl, h1, h3⟩, h4⟩

def Ls (H H' : Hp) : Prop := ∀ c q, H c = some (.lst q) → H' c = some (.lst q)
def Kp (H H' : Hp) : Prop := ∀ a, H a ≠ none → H' a ≠ none
theorem Ls.refl (H : Hp) : Ls H H := fun _ _ e => e
theorem Ls.trans {H H1 H2 : Hp} (x : Ls H H1) (y : Ls H1 H2) : Ls H H2 := fun c q e => y c q (x c q e)
theorem Ls.of {H H1 : Hp} (s : Same H H1) : Ls H H1 := fun c q e => s _ _ e
theorem Ls.upd {H : Hp} {p C dx : Addr} {fs : List (Str × V)} {o : HO} (hp : H p = some (.ins C dx fs)) : Ls H (upd H p o) := fun c q e => by rw [upd_ne (ne_of e hp (by intro z; cases z))]; exact e
theorem Ls.x {H H1 : Hp} {p C dx : Addr} {fs : List (Str × V)} (hp : H p = some (.ins C dx fs)) (s : SameX p H H1) : Ls H H1 := fun c q e => s c _ (ne_of e hp (by intro z; cases z)) e
theorem Kp.trans {H H1 H2 : Hp} (x : Kp H H1) (y : Kp H1 H2) : Kp H H2 := fun a e => y a (x a e)
theorem Kp.of {H H1 : Hp} (s : Same H H1) : Kp H H1 := fun a e z => e (s.free z)
theorem Kp.upd {H : Hp} {p : Addr} {o : HO} : Kp H (upd H p o) := fun a e z => by
  by_cases hap : a = p
  · rw [hap, upd_same] at z; cases z
  · rw [upd_ne hap] at z; exact e z
theorem Kp.x {H H1 : Hp} {p : Addr} {o : HO} (s : SameX p H H1) (hp : H1 p = some o) : Kp H H1 := fun a e z => by
  by_cases hap : a = p
  · rw [hap, hp] at z; cases z
  · cases q : H a with
    | none => exact e q
    | some o' => rw [s a o' hap q] at z; cases z
theorem Rows.hid2 {H0 Ha Hb Hc : Hp} {D : Addr} {as : List Addr} (R : Rows Ha Hb D as w f) (hl : as.length = h) (kp : Kp H0 Ha) (ls : Ls Hb Hc) (nz : ∀ c q, H0 c = none → Hb c = some (.lst q) → ¬ Z c) : Rep K (hide Hc Z) (.ref D) (dT h w f) := by
  have go : ∀ c q, Ha c = none → Hb c = some (.lst q) → hide Hc Z c = some (.lst q) := fun c q e1 e2 => by
    have e0 : H0 c = none := by
      cases z : H0 c with
      | none => rfl
      | some o => exact absurd e1 (kp c (by rw [z]; exact fun q => by cases q))
    rw [hide_no (nz c q e0 e2)]
    exact ls c q e2
  refine dT_mk (us := as.map V.ref) (.of (go D _ R.free R.at)) (by rw [List.length_map]; exact hl) fun i hi => ?_
  have hi' : i < as.length := by omega
  obtain ⟨h1, _, h3⟩ := R.row i as[i] (List.getElem?_eq_getElem hi')
  exact ⟨as[i], by rw [List.getElem?_map, List.getElem?_eq_getElem hi']; rfl, .of (go _ _ h1 h3)⟩
end
end Hb
namespace Hb
open PySem L2
section
variable (K : PySem.W.Frag)
def sp_L_turn_by : Sp := fun vs H Q _ => ∃ (c n : Int) (m : Nat), vs = [.int c, .int m, .int n] ∧ m ≤ 60 ∧ (m = 0 → Q .non H) ∧
  (0 < m → ∀ (t : Tn) (v : V) (H' : Hp), okTn m t → (∀ B, n.natAbs < 2 ^ B → tB B t) → Same H H' → Rep K H' v (dTn t) → Q v H')
def sp_L_flip : Sp := sp_flipped K
def sp_L_rows_turned : Sp := fun vs H Q _ => ∃ (v u : V) (h w B : Nat) (f : Nat → Nat → Int) (t : Tn), vs = [v, u] ∧ Rep K H v (dT h w f) ∧ Rep K H u (dTn t) ∧ okTn h t ∧ bT B f ∧ tB B t ∧ B ≤ 1000000 ∧ h ≤ 1000 ∧ w ≤ 1000 ∧
  ∀ (D : Addr) (H' : Hp), H D = none → Same H H' → Rep K (hide H' fun a => H a ≠ none) (.ref D) (dT h w (tnF t f)) → Q (.ref D) H'
def sp_L_turned : Sp := fun vs H Q _ => ∃ (v u : V) (h w B : Nat) (f : Nat → Nat → Int) (b : Bool) (t : Tn), vs = [v, .int w, .bl b, u] ∧ Rep K H v (dT h w f) ∧ Rep K H u (dTn t) ∧ okTn (if b then h else w) t ∧ bT B f ∧ tB B t ∧ B ≤ 1000000 ∧ h ≤ 1000 ∧ w ≤ 1000 ∧
  ∀ (D : Addr) (H' : Hp), H D = none → Same H H' → Rep K (hide H' fun a => H a ≠ none) (.ref D) (dT h w (if b then tnF t f else tnC t f)) → Q (.ref D) H'
def sp_L_do (K : PySem.W.Frag) (CL CT : Addr) : Sp := fun vs H Q _ => ∃ (p L R dn : Addr) (u : V) (Z : Addr → Prop) (h w B : Nat) (f : Nat → Nat → Int) (ds : List (Bool × Tn)) (b : Bool) (t : Tn), vs = [.ref p, .bl b, u] ∧ TurnerAt K CL CT H Z p L R dn h w f ds B ∧ Rep K H u (dTn t) ∧ okTn (if b then h else w) t ∧ tB B t ∧ B ≤ 1000000 ∧ ds.length < 1000 ∧
  TurnerAfter K CL CT H Z p L R dn h w (if b then tnF t f else tnC t f) (ds ++ [(b, t)]) (B + B + 1) Q
def sp_L_stands (K : PySem.W.Frag) (CL CT : Addr) : Sp := fun vs H Q _ => ∃ (p L R dn : Addr) (v : V) (Z : Addr → Prop) (h w B : Nat) (f g : Nat → Nat → Int) (ds : List (Bool × Tn)), vs = [.ref p, v, .int w, .int ds.length] ∧ TurnerAt K CL CT H Z p L R dn h w f ds B ∧ Rep K H v (dT h w g) ∧ (∀ i j, i < h → j < w → f i j = g i j) ∧ ∀ H', Same H H' → Q (.bl true) H'
end
section
variable {K : PySem.W.Frag} {CL CT : Addr} {H H' : Hp} {Z : Addr → Prop} {p L R dn : Addr} {h w B : Nat} {f : Nat → Nat → Int} {ds : List (Bool × Tn)}

theorem TurnerAt.other (x : TurnerAt K CL CT H Z p L R dn h w f ds B) (hk : ∀ a o, (¬ Z a ∨ a = p ∨ a = L ∨ a = R ∨ a = dn) → H a = some o → H' a = some o) (ts : TSame H H') (kp : Kp H H') : TurnerAt K CL CT H' Z p L R dn h w f ds B := by
  have sh : Same (hide H Z) (hide H' Z) := hide_mono fun a o n e => hk a o (.inl n) e
  obtain ⟨tb, h1, h2⟩ := x.ob
  obtain ⟨us, h3, h4⟩ := x.dl
  exact ⟨⟨tb, h1.keep fun o e => hk _ _ (.inr (.inl rfl)) e, Rep.same sh h2⟩, x.lf.keep (fun o e => hk _ _ (.inr (.inr (.inl rfl))) e) sh, x.rt.keep (fun o e => hk _ _ (.inr (.inr (.inr (.inl rfl)))) e) sh, ⟨us, hk _ _ (.inr (.inr (.inr (.inr rfl)))) h3, Reps.t ts (imms_done ds) h4⟩, x.bf, x.bd, x.ne, x.z,
    fun a ha => kp a (x.zh a ha), x.sm⟩
theorem Fr4.same {H0 : Hp} (fr : Fr4 p L R dn H H') (s : Same H0 H) (h1 : H0 p = none) (h2 : H0 L = none) (h3 : H0 R = none) (h4 : H0 dn = none) : Same H0 H' := fun a o e => fr a o (ne_of_none e h1) (ne_of_none e h2) (ne_of_none e h3) (ne_of_none e h4) (s a o e)
theorem other_line {A e m : Int} (h0 : 0 ≤ A) (h1 : A < m) (h2 : 0 ≤ e) (h3 : e < m - 1) : (A + 1 + e) % m ≠ A ∧ 0 ≤ (A + 1 + e) % m ∧ (A + 1 + e) % m < m := by
  refine ⟨?_, Int.emod_nonneg _ (by omega), Int.emod_lt_of_pos _ (by omega)⟩
  by_cases hs : A + 1 + e < m
  · rw [Int.emod_eq_of_lt (by omega) hs]; omega
  · have : (A + 1 + e) % m = A + 1 + e - m := by
      have e1 : A + 1 + e = (A + 1 + e - m) + m := by omega
      rw [e1, Int.add_emod_right, Int.emod_eq_of_lt (by omega) (by omega)]
      omega
    omega
end
end Hb

set_option Elab.async false
set_option linter.all false
set_option maxRecDepth 100000
set_option maxHeartbeats 4000000

namespace Hb
open PySem L2

structure Sta where
  T : Nat → Nat → Int
  f : Nat → Nat → Int
  l : Nat → Nat → Int
  lb : Nat → Nat → Int
  r : Nat → Nat → Int
  rb : Nat → Nat → Int
def Sta.row (S : Sta) (t : Tn) : Sta := { S with f := tnF t S.f, l := tnF t S.l, lb := tnF (tnA t) S.lb }
def Sta.col (S : Sta) (t : Tn) : Sta := { S with f := tnC t S.f, r := tnF t S.r, rb := tnF (tnA t) S.rb }
def dot (x y : Nat → Int) (n : Nat) : Int := sumN (fun k => x k * y k) n
theorem dot_negL (x y : Nat → Int) (n : Nat) : dot (fun k => -(x k)) y n = -dot x y n := by
  unfold dot
  have : sumN (fun k => -x k * y k) n = sumN (fun k => (-1) * (x k * y k)) n := sumN_congr fun k _ => by grind
  rw [this, sumN_mulL]; omega
theorem dot_comm (x y : Nat → Int) (n : Nat) : dot x y n = dot y x n := sumN_congr fun k _ => Int.mul_comm _ _
theorem dot_negR (x y : Nat → Int) (n : Nat) : dot x (fun k => -(y k)) n = -dot x y n := by rw [dot_comm, dot_negL, dot_comm]
theorem dot_addL (x y z : Nat → Int) (c : Int) (n : Nat) : dot (fun k => 1 * x k + c * y k) z n = dot x z n + c * dot y z n := by
  unfold dot
  have : sumN (fun k => (1 * x k + c * y k) * z k) n = sumN (fun k => x k * z k + c * (y k * z k)) n := sumN_congr fun k _ => by grind
  rw [this, sumN_add, sumN_mulL]
theorem dot_addR (x y z : Nat → Int) (c : Int) (n : Nat) : dot z (fun k => 1 * x k + c * y k) n = dot z x n + c * dot z y n := by
  rw [dot_comm, dot_addL, dot_comm z x, dot_comm z y]
def dl (a b : Nat) : Int := if b = a then 1 else 0
theorem dl_self (a : Nat) : dl a a = 1 := if_pos rfl
theorem dl_ne {a b : Nat} (h : a ≠ b) : dl a b = 0 := if_neg fun z => h z.symm
theorem tn_mi (i : Nat) (g : Nat → Nat → Int) (r : Nat) : tnF (.mi i) g r = if r = i then (fun k => -(g i k)) else g r := by
  funext c
  show (if r = i then -(g i c) else g r c) = _
  by_cases z : r = i
  · rw [if_pos z, if_pos z]
  · rw [if_neg z, if_neg z]
theorem tn_sw (i j : Nat) (g : Nat → Nat → Int) (r : Nat) : tnF (.sw i j) g r = g (if r = j then i else if r = i then j else r) := by
  funext c
  show (if r = j then g i c else if r = i then g j c else g r c) = _
  by_cases z : r = j
  · rw [if_pos z, if_pos z]
  · rw [if_neg z, if_neg z]
    by_cases y : r = i
    · rw [if_pos y, if_pos y]
    · rw [if_neg y, if_neg y]
theorem tn_ad (i j : Nat) (n : Int) (g : Nat → Nat → Int) (r : Nat) : tnF (.ad i j n) g r = if r = i then (fun k => 1 * g i k + n * g j k) else g r := by
  funext c
  show (if r = i then 1 * g i c + n * g j c else g r c) = _
  by_cases z : r = i
  · rw [if_pos z, if_pos z]
  · rw [if_neg z, if_neg z]

theorem pair_rows {m : Nat} {t : Tn} (ht : okTn m t) {g b : Nat → Nat → Int} (h : ∀ r s, r < m → s < m → dot (g r) (b s) m = dl r s) {r s : Nat} (hr : r < m) (hs : s < m) : dot (tnF t g r) (tnF (tnA t) b s) m = dl r s := by
  cases t with
  | mi i =>
    show dot (tnF (.mi i) g r) (tnF (.mi i) b s) m = _
    rw [tn_mi, tn_mi]
    have hi : i < m := ht
    by_cases h1 : r = i
    · by_cases h2 : s = i
      · rw [if_pos h1, if_pos h2, dot_negL, dot_negR, h i i hi hi, h1, h2]; omega
      · rw [if_pos h1, if_neg h2, dot_negL, h i s hi hs, h1, dl_ne (Ne.symm h2)]; rfl
    · by_cases h2 : s = i
      · rw [if_neg h1, if_pos h2, dot_negR, h r i hr hi, h2, dl_ne h1]; rfl
      · rw [if_neg h1, if_neg h2, h r s hr hs]
  | sw i j =>
    obtain ⟨hi, hj, hij⟩ := ht
    show dot (tnF (.sw i j) g r) (tnF (.sw i j) b s) m = _
    rw [tn_sw, tn_sw, h _ _ (by split <;> (try split) <;> omega) (by split <;> (try split) <;> omega)]
    unfold dl
    (repeat' split) <;> first | rfl | omega
  | ad i j n =>
    obtain ⟨hi, hj, hij⟩ := ht
    show dot (tnF (.ad i j n) g r) (tnF (.ad j i (-n)) b s) m = _
    rw [tn_ad, tn_ad]
    by_cases h1 : r = i
    · by_cases h2 : s = j
      · rw [if_pos h1, if_pos h2, dot_addL, dot_addR, dot_addR, h i j hi hj, h i i hi hi, h j j hj hj, h j i hj hi, h1, h2, dl_self, dl_self, dl_ne hij, dl_ne (Ne.symm hij)]
        grind
      · rw [if_pos h1, if_neg h2, dot_addL, h i s hi hs, h j s hj hs, h1, dl_ne (Ne.symm h2)]; omega
    · by_cases h2 : s = j
      · rw [if_neg h1, if_pos h2, dot_addR, h r j hr hj, h r i hr hi, h2, dl_ne h1]; omega
      · rw [if_neg h1, if_neg h2, h r s hr hs]
theorem sum_two (F : Nat → Int) {n i j : Nat} (hi : i < n) (hj : j < n) (c d : Int) : sumN (fun k => F k + ((if k = i then 1 else 0) * c + (if k = j then 1 else 0) * d)) n = sumN F n + (c + d) := by
  rw [sumN_add, sumN_add, sumN_delta (fun _ => c), sumN_delta (fun _ => d), if_pos hi, if_pos hj]

theorem pair_cols {m : Nat} {t : Tn} (ht : okTn m t) (g b : Nat → Nat → Int) (x y : Nat) : sumN (fun k => tnF (tnA t) b k x * tnF t g k y) m = sumN (fun k => b k x * g k y) m := by
  cases t with
  | mi i =>
    refine sumN_congr fun k _ => ?_
    show tnF (.mi i) b k x * tnF (.mi i) g k y = _
    rw [tn_mi, tn_mi]
    by_cases z : k = i
    · rw [if_pos z, if_pos z, z]; grind
    · rw [if_neg z, if_neg z]
  | sw i j =>
    obtain ⟨hi, hj, hij⟩ := ht
    have : sumN (fun k => tnF (tnA (.sw i j)) b k x * tnF (.sw i j) g k y) m = sumN (fun k => b k x * g k y + ((if k = i then 1 else 0) * (b j x * g j y - b i x * g i y) + (if k = j then 1 else 0) * (b i x * g i y - b j x * g j y))) m := sumN_congr fun k _ => by
      show tnF (.sw i j) b k x * tnF (.sw i j) g k y = _
      rw [tn_sw, tn_sw]
      by_cases h1 : k = j
      · by_cases h2 : k = i
        · exact absurd (h2.symm.trans h1) hij
        · simp only [if_pos h1, if_neg h2]; rw [h1]; omega
      · by_cases h2 : k = i
        · simp only [if_neg h1, if_pos h2]; rw [h2]; omega
        · simp only [if_neg h1, if_neg h2]; omega
    rw [this, sum_two _ hi hj]
    omega
  | ad i j n =>
    obtain ⟨hi, hj, hij⟩ := ht
    have : sumN (fun k => tnF (tnA (.ad i j n)) b k x * tnF (.ad i j n) g k y) m = sumN (fun k => b k x * g k y + ((if k = i then 1 else 0) * (n * (b i x * g j y)) + (if k = j then 1 else 0) * (-(n * (b i x * g j y))))) m := sumN_congr fun k _ => by
      show tnF (.ad j i (-n)) b k x * tnF (.ad i j n) g k y = _
      rw [tn_ad, tn_ad]
      by_cases h1 : k = j
      · by_cases h2 : k = i
        · exact absurd (h2.symm.trans h1) hij
        · simp only [if_pos h1, if_neg h2]; rw [h1]; grind
      · by_cases h2 : k = i
        · simp only [if_neg h1, if_pos h2]; rw [h2]; grind
        · simp only [if_neg h1, if_neg h2]; omega
    rw [this, sum_two _ hi hj]
    omega

theorem lin_turn {Φ : (Nat → Int) → Int} (hneg : ∀ x, Φ (fun k => -(x k)) = -Φ x) (hadd : ∀ x y c, Φ (fun k => 1 * x k + c * y k) = Φ x + c * Φ y) (t : Tn) (g F : Nat → Nat → Int) {c m : Nat} (ht : okTn m t) (h : ∀ r, r < m → F r c = Φ (g r)) {r : Nat} (hr : r < m) : tnF t F r c = Φ (tnF t g r) := by
  cases t with
  | mi i =>
    rw [tn_mi, tn_mi]
    by_cases z : r = i
    · rw [if_pos z, if_pos z, hneg, ← h i ht]
    · rw [if_neg z, if_neg z]; exact h r hr
  | sw i j =>
    obtain ⟨hi, hj, hij⟩ := ht
    rw [tn_sw, tn_sw]
    exact h _ (by split <;> (try split) <;> omega)
  | ad i j n =>
    obtain ⟨hi, hj, hij⟩ := ht
    rw [tn_ad, tn_ad]
    by_cases z : r = i
    · rw [if_pos z, if_pos z, hadd, ← h i hi, ← h j hj]
      show 1 * F i c + n * F j c = _
      omega
    · rw [if_neg z, if_neg z]; exact h r hr
structure Good (h w : Nat) (S : Sta) : Prop where
  l1 : ∀ r s, r < h → s < h → dot (S.l r) (S.lb s) h = dl r s
  l2 : ∀ a b, a < h → b < h → sumN (fun k => S.lb k a * S.l k b) h = dl a b
  r1 : ∀ r s, r < w → s < w → dot (S.r r) (S.rb s) w = dl r s
  r2 : ∀ a b, a < w → b < w → sumN (fun k => S.rb k a * S.r k b) w = dl a b
  now : ∀ i j, i < h → j < w → S.f i j = dot (fun b => dot (S.l i) (fun a => S.T a b) h) (S.r j) w
theorem Good.row {h w : Nat} {S : Sta} {t : Tn} (x : Good h w S) (ht : okTn h t) : Good h w (S.row t) := by
  refine ⟨fun r s hr hs => pair_rows ht x.l1 hr hs, fun a b ha hb => (pair_cols ht S.l S.lb a b).trans (x.l2 a b ha hb), x.r1, x.r2, fun i j hi hj => ?_⟩
  refine lin_turn (Φ := fun v => dot (fun b => dot v (fun a => S.T a b) h) (S.r j) w) (fun v => ?_) (fun v u c => ?_) t S.l S.f ht (fun r hr => x.now r j hr hj) hi
  · have : (fun b => dot (fun k => -(v k)) (fun a => S.T a b) h) = fun b => -(dot v (fun a => S.T a b) h) := by funext b; exact dot_negL _ _ _
    rw [this, dot_negL]
  · have : (fun b => dot (fun k => 1 * v k + c * u k) (fun a => S.T a b) h) = fun b => 1 * dot v (fun a => S.T a b) h + c * dot u (fun a => S.T a b) h := by funext b; rw [dot_addL]; omega
    rw [this, dot_addL]
theorem Good.col {h w : Nat} {S : Sta} {t : Tn} (x : Good h w S) (ht : okTn w t) : Good h w (S.col t) := by
  refine ⟨x.l1, x.l2, fun r s hr hs => pair_rows ht x.r1 hr hs, fun a b ha hb => (pair_cols ht S.r S.rb a b).trans (x.r2 a b ha hb), fun i j hi hj => ?_⟩
  exact lin_turn (Φ := fun v => dot (fun b => dot (S.l i) (fun a => S.T a b) h) v w) (fun v => dot_negR _ _ _) (fun v u c => dot_addR _ _ _ _ _) t S.r (fun a b => S.f b a) ht (fun r hr => x.now i r hi hr) hj
def unit : Nat → Nat → Int := fun i j => if j = i then 1 else 0
def Sta.first (f : Nat → Nat → Int) : Sta := ⟨f, f, unit, unit, unit, unit⟩
theorem dot_unitL (y : Nat → Int) {i n : Nat} (h : i < n) : dot (unit i) y n = y i := by
  unfold dot unit
  rw [sumN_delta y i n, if_pos h]
theorem Good.first (h w : Nat) (f : Nat → Nat → Int) : Good h w (Sta.first f) := by
  have sq : ∀ m a b, a < m → b < m → dot (unit a) (unit b) m = dl a b := fun m a b ha hb => by
    rw [dot_unitL _ ha]
    unfold unit dl
    by_cases z : a = b
    · rw [if_pos z, if_pos z.symm]
    · rw [if_neg z, if_neg (Ne.symm z)]
  have sq2 : ∀ m a b, a < m → b < m → sumN (fun k => unit k a * unit k b) m = dl a b := fun m a b ha hb => by
    have : sumN (fun k => unit k a * unit k b) m = sumN (fun k => (if k = a then 1 else 0) * unit k b) m := sumN_congr fun k _ => by
      unfold unit
      by_cases z : a = k
      · rw [if_pos z, if_pos z.symm]
      · rw [if_neg z, if_neg (Ne.symm z)]
    rw [this, sumN_delta (fun k => unit k b) a m, if_pos ha]
    rfl
  refine ⟨sq h, sq2 h, sq w, sq2 w, fun i j hi hj => ?_⟩
  show f i j = dot (fun b => dot (unit i) (fun a => f a b) h) (unit j) w
  have : (fun b => dot (unit i) (fun a => f a b) h) = fun b => f i b := by funext b; exact dot_unitL _ hi
  rw [this, dot_comm, dot_unitL _ hj]

theorem bT.turn3 {B : Nat} {f : Nat → Nat → Int} {t : Tn} (h : bT B f) (ht : tB 3 t) : bT (B + 4) (tnF t f) := by
  intro r c
  cases t with
  | mi i => rw [tn_mi]; split <;> first | exact bd_mono (bd_neg (h _ _)) (by omega) | exact bd_mono (h _ _) (by omega)
  | sw i j => rw [tn_sw]; exact bd_mono (h _ _) (by omega)
  | ad i j n =>
    rw [tn_ad]
    split
    · have h1 : (1 * f i c).natAbs < 2 ^ (B + 3) := by rw [Int.one_mul]; exact bd_mono (h _ _) (by omega)
      have h2 : (n * f j c).natAbs < 2 ^ (3 + B) := bd_mul ht (h _ _)
      rw [Nat.add_comm] at h2
      exact bd_add h1 h2
    · exact bd_mono (h _ _) (by omega)
theorem bT.cols3 {B : Nat} {f : Nat → Nat → Int} {t : Tn} (h : bT B f) (ht : tB 3 t) : bT (B + 4) (tnC t f) := fun r c => bT.turn3 (f := fun a b => f b a) (fun a b => h b a) ht c r
end Hb

set_option Elab.async false
set_option linter.all false
set_option maxRecDepth 100000
set_option maxHeartbeats 4000000

namespace L2
open PySem PySem.Spec PyProof.Rows
structure RoomN (k : Nat) (A : Around) : Prop where
  dp : A.depth + 3 * k + 5 < recursionLimit
  un : A.units + 16 * k + 200 < cLine
theorem RoomN.mono {j k : Nat} {A : Around} (r : RoomN k A) (h : j ≤ k) : RoomN j A := ⟨by have := r.dp; omega, by have := r.un; omega⟩
theorem RoomN.deeper {k : Nat} {A : Around} (r : RoomN (k + 1) A) (env : Env) : RoomN k (A.deeper env) :=
  ⟨by have := r.dp; show A.depth + 1 + 3 * k + 5 < _; omega, by have := r.un; show A.units + 3 + 16 * k + 200 < _; omega⟩
theorem RoomN.depth {k : Nat} {A : Around} (r : RoomN k A) : A.depth < recursionLimit := by have := r.dp; omega
theorem RoomN.units {k : Nat} {A : Around} (r : RoomN k A) : A.units + 64 < cLine := by have := r.un; omega
theorem Room.n {k : Nat} {A : Around} {v : Option Value} (r : Room k A) : RoomN k (A.mark v) := ⟨r.dp, r.un⟩
structure FnOkN (P : Program) (w : World) (K : PySem.W.Frag) (mg : Str → Option Value) (base : Heap) (k : Nat) (f : Addr) (fd : FuncData) (ps : List Str) (sp : Sp) : Prop where
  len : ∀ vs H Q E, sp vs H Q E → vs.length = ps.length
  run : ∀ (A : Around) (outer : List Env) (s : Shared) (H : Hp) (args : Args) (us : List Value) (vs : List V) (Q : VK) (E : XK), RoomN k A → Env0 P w K mg base A outer s H → BindsTo s fd args (ps.zip us) → Vals vs us → sp vs H Q E →
    codeAny (model P w) A (.call (.ref f) args) (CR CX0 outer P w H s Q E) s
abbrev cxN (P : Program) (w : World) (K : PySem.W.Frag) (mg : Str → Option Value) (base : Heap) (N : List Str) (qual : Str) (scope : Scope) (f : Addr) (cd : Value) (A : Around) (outer : List Env) (s : Shared) (H : Hp) (E : XK) : Cx :=
  { cxOf CX0 P w K mg base N qual scope f cd A outer s H E with calm := false, xe := fun _ _ => False }
section
variable {P : Program} {w : World} {K : PySem.W.Frag} {mg : Str → Option Value} {base : Heap}
end
structure HasN (P : Program) (w : World) (K : PySem.W.Frag) (mg : Str → Option Value) (base : Heap) (x : Str) (ps : List Str) (k : Nat) (sp : Sp) : Prop where
  ex : ∃ (f : Addr) (fd : FuncData), mg x = some (.ref f) ∧ PySem.W.keepIn K (.ref f) = true ∧ Binds K fd ps [] ∧ FnOkN P w K mg base k f fd ps sp
section
variable {X : Cx} {x : Str} {ps : List Str} {j k : Nat} {sp : Sp} {p pos : Pos} {e : Expr} {es : List Expr} {t : TA}
end
end L2

set_option Elab.async false
set_option linter.all false
set_option maxRecDepth 100000
set_option maxHeartbeats 4000000

namespace L2
open PySem PySem.Spec PyProof.Rows PySem.W
structure HasMX (P : Program) (w : World) (K : Frag) (mg : Str → Option Value) (base : Heap) (C : Addr) (m : Str) (ps : List Str) (k : Nat) (sp : Sp) : Prop where
  ex : ∃ (f : Addr) (fd : FuncData), Meth K C m f ∧ Binds K fd ps [] ∧ FnOk P w K mg base (CX1 P w) k f fd ps sp
def tMethX (C : Addr) (m : Str) (sp : Sp) (J : XJ) (ta : TE) (t : TA) : TE := fun σ H Q => ta σ H fun x H1 => ∃ a dx fs, x = .ref a ∧ H1 a = some (.ins C dx fs) ∧ fs.lookup m = none ∧
  t σ H1 fun vs H2 => sp (x :: vs) H2 Q (fun cls ed H3 => J cls ed σ H3)
section
variable {X : Cx} {J : XJ} {j k : Nat} {C : Addr} {ps : List Str} {sp : Sp} {m : Str} {pos apos : Pos} {e o : Expr} {es : List Expr} {ta : TE} {t : TA}
theorem pe_methX0 {pl : Sem Bool} (hx : Flies X J) (he : PE X o ta) (c : Cls X.K C) (h : HasMX X.prog X.w X.K X.mg X.base C m ps j sp) (hr : Room k X.A) (hk : j ≤ k := by decide)
    (ht : eval (.Call (.Attribute o m apos) [] [] pos) X.env = (do
      let ov ← eval o X.env
      standAt apos.atName
      let (f, first) ← holding [ov] (getMethod ov m pl)
      callWith pos f first (backTo pos (starEach [] X.env)) (backToKw pos (keywordEach [] X.env))) := by rfl) :
    PE X (.Call (.Attribute o m apos) [] [] pos) (tMethX C m sp J ta tNil) := by
  obtain ⟨f, fd, hm, hb, F⟩ := h.ex
  intro pins s σ H Q I hw
  refine methodCall_KW (pl := pl) (thn (he pins s σ H _ I hw) fun u s1 ⟨x, H1, I1, rx, a, dx, fs, ex, ea, l, q⟩ => ?_) ht
  subst ex
  obtain rfl : u = Value.ref a := rx
  refine getmeth_ok I1 ea c hm l ?_
  exact callWith_K0 (first := [.ref a]) I1.kIn hm.kp (run_fnX (us := [.ref a]) (vs := [.ref a]) F (hr.mono hk) hb hx I1 (.cons rfl .nil) q)
end

def hBare (K : Frag) (C : Addr) (ts : TS) (th : Ends → XJ) : Ends → XJ := fun D cls dx σ H => ∃ (C' : Addr) (b : Bool), cls = .ref C' ∧ subIn K (.ref C') (.ref C) = some b ∧ if b = true then ts D σ H else th D cls dx σ H
theorem ph_bare {X : Cx} {th : Ends → XJ} {x : Str} {C : Addr} {np hpos : Pos} {b0 : Stmt} {bs : List Stmt} {ts : TS} {rest : List ExceptHandler} (hg : Gl X x) (hm : X.mg x = some (.ref C)) (hC : ktsIn X.K C "BaseException" = true)
    (hs : ∀ e, PSs (X.suite e) (b0 :: bs) ts) (hr : PH X rest th) (hdb : (x == ("__debug__" : Str)) = false := by decide) : PH X (.ExceptHandler (some (.Name x np)) none (b0 :: bs) hpos :: rest) (hBare X.K C ts th) := by
  intro pins s σ H D e cls a0 dx F h
  obtain ⟨C', b, rfl, hb, h⟩ := h
  have I := F.inv.1
  obtain ⟨nm, qn, N, bs', bm, hdct, sn, sub, ab, col, dd, k0, k1, k2, k3, k5, nid, hCo, hbase, _⟩ := kts_cls I.kIn hC
  have F' := F
  obtain ⟨B, H0, S, I0, q1, q2, q3, q4, q5, dE⟩ := F'
  obtain ⟨oe, he, hcls⟩ := q5.there
  refine wpAny_handleBy_cons (codeAny_handlers_test (ld_glob (X := X.suite e) (I.suite e) hg hm ?_ hdb)) (by intro q; cases q)
  have LS : Looks (model X.prog X.w) s.heap (isSubtype (.ref C') (.ref C)) b := looks_subIn I.kIn hb
  obtain ⟨sh, sg, sd, st, so⟩ := s
  refine exc_match hCo he hcls hbase LS ?_
  cases b with
  | false =>
    rw [if_neg Bool.false_ne_true] at h
    exact hr pins _ σ H D e _ a0 dx F h
  | true =>
    rw [if_pos rfl] at h
    refine codeAny_handlers_suite ?_
    refine wpAny_mono (wpAny_keepsD (kd_setFlight _ _) (lands_againW (E := fun _ _ => False) (Q := fun _ s2 => ∃ h6, s2 = { (⟨sh, sg, sd, st, so⟩ : Shared) with heap := h6 } ∧ Heap.FlyingW B X.stack e (.ref C') a0 h6 ∧ sh.UpToSlots h6) q5 fun h6 f6 up6 => ⟨h6, rfl, f6, up6⟩)) (fun _ s2 ⟨⟨h6, e6, f6, up6⟩, kd⟩ => ?_) (fun _ _ z => z.1.elim)
    subst e6
    have F6 := FlyAt.step I0 q1 q2 q3 q4 q5 f6 up6 (dE.go kd)
    have I6 := F6.inv.1
    refine wpAny_mono (hs e pins _ σ H D (I6.suite e) h) (fun f s8 q => ?_) fun _ _ z => z.elim
    cases f with
    | next => obtain ⟨σ', H', I8, q⟩ := q; exact ⟨σ', H', I8.unsuite I.ok, q⟩
    | brk => obtain ⟨σ', H', I8, q⟩ := q; exact ⟨σ', H', I8.unsuite I.ok, q⟩
    | cont => obtain ⟨σ', H', I8, q⟩ := q; exact ⟨σ', H', I8.unsuite I.ok, q⟩
    | ret u => obtain ⟨v, σ', H', I8, r, q⟩ := q; exact ⟨v, σ', H', I8.unsuite I.ok, r, q⟩
end L2

set_option Elab.async false
set_option linter.all false
set_option maxRecDepth 100000
set_option maxHeartbeats 4000000

namespace L2
open PySem PySem.Spec PyProof.Rows
def intOf : Expr → Option Int
  | .Constant (.int i) _ _ => some i
  | _ => none
def intsOf : List Expr → Option (List Int)
  | [] => some []
  | e :: es => match intOf e, intsOf es with
    | some i, some is => some (i :: is)
    | _, _ => none
def tInts (ns : List Int) : TA := fun _ H Q => Q (ns.map V.int) H
end L2
namespace L2
open PySem PySem.Spec PyProof.Rows

structure PAw (X : Cx) (es : List Expr) (t : TA) : Prop where
  h : PA X es t
end L2

set_option Elab.async false
set_option linter.all false
set_option maxRecDepth 100000
set_option maxHeartbeats 4000000
namespace L2
open PySem PySem.Spec PyProof.Rows

structure PEw (X : Cx) (e : Expr) (t : TE) : Prop where
  h : PE X e t
end L2

set_option Elab.async false
set_option linter.all false
set_option maxRecDepth 100000
set_option maxHeartbeats 4000000

namespace Hb
open PySem L2
structure TObjW (K : PySem.W.Frag) (CT : Addr) (H : Hp) (p : Addr) (tb : V) (w : Nat) (L R dn : Addr) : Prop where
  ex : ∃ dx fs, H p = some (.ins CT dx fs) ∧ fs.lookup ("table" : Str) = some tb ∧ fs.lookup ("width" : Str) = some (.int w) ∧ fs.lookup ("left" : Str) = some (.ref L) ∧ fs.lookup ("right" : Str) = some (.ref R) ∧ fs.lookup ("done" : Str) = some (.ref dn) ∧
    (fs.lookup ("turn_rows" : Str) = none ∧ fs.lookup ("turn_columns" : Str) = none ∧ fs.lookup ("do_rows" : Str) = none ∧ fs.lookup ("do_columns" : Str) = none ∧ fs.lookup ("take_back" : Str) = none ∧ fs.lookup ("many" : Str) = none ∧ fs.lookup ("now" : Str) = none ∧ fs.lookup ("papers" : Str) = none) ∧ fs.length ≤ 20
structure LinesN (K : PySem.W.Frag) (CL : Addr) (H : Hp) (Z : Addr → Prop) (L : Addr) (m B : Nat) (g g' : Nat → Nat → Int) : Prop where
  ex : ∃ r b, LinesAt CL H L r b ∧ Rep K (hide H Z) r (dT m m g) ∧ Rep K (hide H Z) b (dT m m g') ∧ bT B g ∧ bT B g'
structure TurnerW (K : PySem.W.Frag) (CL CT : Addr) (H : Hp) (Z : Addr → Prop) (p L R dn : Addr) (h w : Nat) (S : Sta) (ds : List (Bool × Tn)) (B : Nat) : Prop where
  ob : ∃ tb, TObjW K CT H p tb w L R dn ∧ Rep K (hide H Z) tb (dT h w S.f)
  lf : LinesN K CL H Z L h B S.l S.lb
  rt : LinesN K CL H Z R w B S.r S.rb
  dl : ∃ us, H dn = some (.lst us) ∧ Reps K H us (ds.map dDone)
  bf : bT B S.f
  bd : ∀ q ∈ ds, tB 3 q.2 ∧ okTn (if q.1 then h else w) q.2
  ne : p ≠ L ∧ p ≠ R ∧ p ≠ dn ∧ L ≠ R ∧ L ≠ dn ∧ R ≠ dn
  z : Z p ∧ Z L ∧ Z R ∧ Z dn
  zh : ∀ a, Z a → H a ≠ none
  sm : h ≤ 60 ∧ w ≤ 60 ∧ ds.length ≤ 1000
  gd : Good h w S
  b3 : 3 ≤ B
section
variable {K : PySem.W.Frag} {CL CT : Addr} {H H' : Hp} {Z : Addr → Prop} {p L R dn : Addr} {h w B : Nat} {S S' : Sta} {ds : List (Bool × Tn)} {g g' : Nat → Nat → Int}
theorem LinesN.keep {m : Nat} (x : LinesN K CL H Z L m B g g') (e : ∀ o, H L = some o → H' L = some o) (s : Same (hide H Z) (hide H' Z)) : LinesN K CL H' Z L m B g g' := by
  obtain ⟨r, b, h1, h2, h3, h4⟩ := x.ex
  exact ⟨r, b, h1.keep e, Rep.same s h2, Rep.same s h3, h4⟩
theorem LinesN.mono {m B' : Nat} (x : LinesN K CL H Z L m B g g') (hb : B ≤ B') : LinesN K CL H Z L m B' g g' := by
  obtain ⟨r, b, h1, h2, h3, h4, h5⟩ := x.ex
  exact ⟨r, b, h1, h2, h3, h4.mono hb, h5.mono hb⟩
theorem TObjW.keep {tb : V} (x : TObjW K CT H p tb w L R dn) (e : ∀ o, H p = some o → H' p = some o) : TObjW K CT H' p tb w L R dn := by
  obtain ⟨dx, fs, h1, h2⟩ := x.ex
  exact ⟨dx, fs, e _ h1, h2⟩
theorem TurnerW.same (x : TurnerW K CL CT H Z p L R dn h w S ds B) (s : Same H H') : TurnerW K CL CT H' Z p L R dn h w S ds B := by
  obtain ⟨tb, h1, h2⟩ := x.ob
  obtain ⟨us, h3, h4⟩ := x.dl
  exact ⟨⟨tb, h1.keep fun o e => s _ _ e, Rep.same (same_hid s) h2⟩, x.lf.keep (fun o e => s _ _ e) (same_hid s), x.rt.keep (fun o e => s _ _ e) (same_hid s), ⟨us, s _ _ h3, Reps.same s h4⟩, x.bf, x.bd, x.ne, x.z,
    fun a ha e => x.zh a ha (s.free e), x.sm, x.gd, x.b3⟩
theorem TurnerW.t (x : TurnerW K CL CT H Z p L R dn h w S ds B) (fr : Fr4 p L R dn H H') : TSame H H' := by
  obtain ⟨tb, ⟨dx, fs, hp, _⟩, _⟩ := x.ob
  obtain ⟨r, b, ⟨dl, fl, hl, _⟩, _⟩ := x.lf.ex
  obtain ⟨r', b', ⟨dr, f2, hr, _⟩, _⟩ := x.rt.ex
  obtain ⟨us, hd, _⟩ := x.dl
  have go : ∀ a o, H a = some o → (∀ C d q, o ≠ .ins C d q) → (∀ q, o ≠ .lst q) → H' a = some o := fun a o e n1 n2 =>
    fr a o (ne_of e hp (n1 _ _ _)) (ne_of e hl (n1 _ _ _)) (ne_of e hr (n1 _ _ _)) (ne_of e hd (n2 _)) e
  exact ⟨fun a xs e => go a _ e (fun _ _ _ z => by cases z) (fun _ z => by cases z), fun a o u e => go a _ e (fun _ _ _ z => by cases z) (fun _ z => by cases z)⟩
theorem TurnerW.redo {B' : Nat} (x : TurnerW K CL CT H Z p L R dn h w S ds B) (fr : Fr4 p L R dn H H') (hB : B ≤ B') (ob : ∃ tb, TObjW K CT H' p tb w L R dn ∧ Rep K (hide H' Z) tb (dT h w S'.f)) (lf : LinesN K CL H' Z L h B' S'.l S'.lb) (rt : LinesN K CL H' Z R w B' S'.r S'.rb)
    (hdn : ∀ o, H dn = some o → H' dn = some o) (bf : bT B' S'.f) (keep : ∀ a, H a ≠ none → H' a ≠ none) (gd : Good h w S') : TurnerW K CL CT H' Z p L R dn h w S' ds B' := by
  obtain ⟨us, h1, h2⟩ := x.dl
  exact ⟨ob, lf, rt, ⟨us, hdn _ h1, Reps.t (x.t fr) (imms_done ds) h2⟩, bf, x.bd, x.ne, x.z, fun a ha => keep a (x.zh a ha), x.sm, gd, Nat.le_trans x.b3 hB⟩
theorem TurnerW.redone {ds' : List (Bool × Tn)} {us' : List V} (x : TurnerW K CL CT H Z p L R dn h w S ds B) (hr : Reps K H us' (ds'.map dDone)) (hb : ∀ q ∈ ds', tB 3 q.2 ∧ okTn (if q.1 then h else w) q.2) (hl : ds'.length ≤ 1000) :
    TurnerW K CL CT (upd H dn (.lst us')) Z p L R dn h w S ds' B := by
  obtain ⟨n1, n2, n3, n4, n5, n6⟩ := x.ne
  obtain ⟨z1, z2, z3, z4⟩ := x.z
  obtain ⟨us, hd, _⟩ := x.dl
  have sh : Same (hide H Z) (hide (upd H dn (.lst us')) Z) := hide_mono fun a o n e => by
    have hap : a ≠ dn := fun z => n (by rw [z]; exact z4)
    rw [upd_ne hap]; exact e
  obtain ⟨tb, h1, h2⟩ := x.ob
  refine ⟨⟨tb, h1.keep fun o e => by rw [upd_ne n3]; exact e, Rep.same sh h2⟩, x.lf.keep (fun o e => by rw [upd_ne n5]; exact e) sh, x.rt.keep (fun o e => by rw [upd_ne n6]; exact e) sh, ⟨us', upd_same, Reps.t (TSame.lst hd) (imms_done ds') hr⟩, x.bf, hb, x.ne, x.z, fun a ha e => ?_, ⟨x.sm.1, x.sm.2.1, hl⟩, x.gd, x.b3⟩
  by_cases hap : a = dn
  · rw [hap, upd_same] at e; cases e
  · rw [upd_ne hap] at e; exact x.zh a ha e
theorem TurnerW.other (x : TurnerW K CL CT H Z p L R dn h w S ds B) (hk : ∀ a o, (¬ Z a ∨ a = p ∨ a = L ∨ a = R ∨ a = dn) → H a = some o → H' a = some o) (ts : TSame H H') (kp : Kp H H') : TurnerW K CL CT H' Z p L R dn h w S ds B := by
  have sh : Same (hide H Z) (hide H' Z) := hide_mono fun a o n e => hk a o (.inl n) e
  obtain ⟨tb, h1, h2⟩ := x.ob
  obtain ⟨us, h3, h4⟩ := x.dl
  exact ⟨⟨tb, h1.keep fun o e => hk _ _ (.inr (.inl rfl)) e, Rep.same sh h2⟩, x.lf.keep (fun o e => hk _ _ (.inr (.inr (.inl rfl))) e) sh, x.rt.keep (fun o e => hk _ _ (.inr (.inr (.inr (.inl rfl)))) e) sh, ⟨us, hk _ _ (.inr (.inr (.inr (.inr rfl)))) h3, Reps.t ts (imms_done ds) h4⟩, x.bf, x.bd, x.ne, x.z,
    fun a ha => kp a (x.zh a ha), x.sm, x.gd, x.b3⟩

theorem TurnerW.grow {d : Addr} {o : HO} (x : TurnerW K CL CT H Z p L R dn h w S ds B) (hd : H d = none) : TurnerW K CL CT (upd H d o) (fun a => Z a ∨ a = d) p L R dn h w S ds B := by
  have s : Same H (upd H d o) := Same.new hd
  have sh : Same (hide H Z) (hide (upd H d o) fun a => Z a ∨ a = d) := fun a u e => by
    by_cases hz : Z a
    · rw [hide_yes hz] at e; cases e
    · rw [hide_no hz] at e
      have hn : a ≠ d := ne_of_none e hd
      rw [hide_no (by rintro (y | y); exact hz y; exact hn y)]
      exact s _ _ e
  obtain ⟨tb, h1, h2⟩ := x.ob
  obtain ⟨us, h3, h4⟩ := x.dl
  have ln : ∀ {q : Addr} {m : Nat} {g g' : Nat → Nat → Int}, LinesN K CL H Z q m B g g' → LinesN K CL (upd H d o) (fun a => Z a ∨ a = d) q m B g g' := fun y => by
    obtain ⟨r, b, y1, y2, y3, y4⟩ := y.ex
    exact ⟨r, b, y1.keep fun o e => s _ _ e, Rep.same sh y2, Rep.same sh y3, y4⟩
  obtain ⟨z1, z2, z3, z4⟩ := x.z
  refine ⟨⟨tb, h1.keep fun o e => s _ _ e, Rep.same sh h2⟩, ln x.lf, ln x.rt, ⟨us, s _ _ h3, Reps.same s h4⟩, x.bf, x.bd, x.ne, ⟨.inl z1, .inl z2, .inl z3, .inl z4⟩, fun a ha e => ?_, x.sm, x.gd, x.b3⟩
  rcases ha with ha | ha
  · exact x.zh a ha (s.free e)
  · rw [ha, upd_same] at e; cases e
theorem TurnerW.more {B' : Nat} (x : TurnerW K CL CT H Z p L R dn h w S ds B) (hb : B ≤ B') : TurnerW K CL CT H Z p L R dn h w S ds B' :=
  ⟨x.ob, x.lf.mono hb, x.rt.mono hb, x.dl, x.bf.mono hb, x.bd, x.ne, x.z, x.zh, x.sm, x.gd, Nat.le_trans x.b3 hb⟩
end
def spW_Lines_turn (K : PySem.W.Frag) (CL _CT : Addr) : Sp := fun vs H Q _ => ∃ (p : Addr) (u : V) (Z : Addr → Prop) (m B : Nat) (t : Tn) (g g' : Nat → Nat → Int), vs = [.ref p, u] ∧ LinesN K CL H Z p m B g g' ∧ Z p ∧ (∀ a, Z a → H a ≠ none) ∧ Rep K H u (dTn t) ∧ okTn m t ∧ tB 3 t ∧ 3 ≤ B ∧ B ≤ 1000000 ∧ m ≤ 1000 ∧
  ∀ H', SameX p H H' → LinesN K CL H' Z p m (B + 4) (tnF t g) (tnF (tnA t) g') → (∀ a, H a ≠ none → H' a ≠ none) → Q .non H'
section
variable (K : PySem.W.Frag) (CL CT : Addr)
def spW_init : Sp := fun vs H Q _ => ∃ (p dx : Addr) (v : V) (h w B : Nat) (f : Nat → Nat → Int), vs = [.ref p, v, .int w] ∧ H p = some (.ins CT dx []) ∧ Rep K H v (dT h w f) ∧ h ≤ 40 ∧ w ≤ 40 ∧ bT B f ∧ 3 ≤ B ∧
  ∀ (L R dn : Addr) (H' : Hp), H L = none → H R = none → H dn = none → SameX p H H' → TurnerW K CL CT H' (fun a => H a ≠ none ∨ a = L ∨ a = R ∨ a = dn) p L R dn h w (Sta.first f) [] B → Q .non H'
def AfterW (H : Hp) (Z : Addr → Prop) (p L R dn : Addr) (h w : Nat) (S : Sta) (ds : List (Bool × Tn)) (B : Nat) (Q : V → Hp → Prop) : Prop :=
  ∀ H', Fr4 p L R dn H H' → TurnerW K CL CT H' Z p L R dn h w S ds B → Q .non H'
def spW_do_rows : Sp := fun vs H Q _ => ∃ (p L R dn : Addr) (u : V) (Z : Addr → Prop) (h w B : Nat) (S : Sta) (ds : List (Bool × Tn)) (t : Tn), vs = [.ref p, u] ∧ TurnerW K CL CT H Z p L R dn h w S ds B ∧ Rep K H u (dTn t) ∧ okTn h t ∧ tB 3 t ∧ B ≤ 1000000 ∧ AfterW K CL CT H Z p L R dn h w (S.row t) ds (B + 4) Q
def spW_do_columns : Sp := fun vs H Q _ => ∃ (p L R dn : Addr) (u : V) (Z : Addr → Prop) (h w B : Nat) (S : Sta) (ds : List (Bool × Tn)) (t : Tn), vs = [.ref p, u] ∧ TurnerW K CL CT H Z p L R dn h w S ds B ∧ Rep K H u (dTn t) ∧ okTn w t ∧ tB 3 t ∧ B ≤ 1000000 ∧ AfterW K CL CT H Z p L R dn h w (S.col t) ds (B + 4) Q
def spW_turn_rows : Sp := fun vs H Q _ => ∃ (p L R dn : Addr) (u : V) (Z : Addr → Prop) (h w B : Nat) (S : Sta) (ds : List (Bool × Tn)) (t : Tn), vs = [.ref p, u] ∧ TurnerW K CL CT H Z p L R dn h w S ds B ∧ Rep K H u (dTn t) ∧ okTn h t ∧ tB 3 t ∧ B ≤ 1000000 ∧ ds.length < 1000 ∧ AfterW K CL CT H Z p L R dn h w (S.row t) (ds ++ [(true, t)]) (B + 4) Q
def spW_turn_columns : Sp := fun vs H Q _ => ∃ (p L R dn : Addr) (u : V) (Z : Addr → Prop) (h w B : Nat) (S : Sta) (ds : List (Bool × Tn)) (t : Tn), vs = [.ref p, u] ∧ TurnerW K CL CT H Z p L R dn h w S ds B ∧ Rep K H u (dTn t) ∧ okTn w t ∧ tB 3 t ∧ B ≤ 1000000 ∧ ds.length < 1000 ∧ AfterW K CL CT H Z p L R dn h w (S.col t) (ds ++ [(false, t)]) (B + 4) Q
def Sta.tk (S : Sta) (q : Bool × Tn) : Sta := if q.1 then S.row (tnB q.2) else S.col (tnB q.2)
def spW_take_back (C : Addr) : Sp := fun vs H Q E => ∃ (p L R dn : Addr) (Z : Addr → Prop) (h w B : Nat) (S : Sta) (ds : List (Bool × Tn)), vs = [.ref p] ∧ TurnerW K CL CT H Z p L R dn h w S ds B ∧ B ≤ 1000000 ∧
  (ds = [] → E (.ref C) none H) ∧ ∀ ds0 q, ds = ds0 ++ [q] → AfterW K CL CT H Z p L R dn h w (S.tk q) ds0 (B + 4) Q
def spW_many : Sp := fun vs H Q _ => ∃ (p L R dn : Addr) (Z : Addr → Prop) (h w B : Nat) (S : Sta) (ds : List (Bool × Tn)), vs = [.ref p] ∧ TurnerW K CL CT H Z p L R dn h w S ds B ∧ Q (.int ds.length) H
def spW_now : Sp := fun vs H Q _ => ∃ (p L R dn : Addr) (Z : Addr → Prop) (h w B : Nat) (S : Sta) (ds : List (Bool × Tn)), vs = [.ref p] ∧ TurnerW K CL CT H Z p L R dn h w S ds B ∧ newT H h w S.f Q

def spW_papers : Sp := fun vs H Q _ => ∃ (p L R dn : Addr) (Z : Addr → Prop) (h w B : Nat) (S : Sta) (ds : List (Bool × Tn)), vs = [.ref p] ∧ TurnerW K CL CT H Z p L R dn h w S ds B ∧
  ∀ (t D1 D2 D3 D4 : Addr) (as1 as2 as3 as4 : List Addr) (H1 H2 H3 H4 H5 : Hp), as1.length = h → Rows H H1 D1 as1 h (fun i j => S.lb j i) → as2.length = w → Rows H1 H2 D2 as2 w (fun i j => S.r j i) → as3.length = h → Rows H2 H3 D3 as3 h S.l → as4.length = w → Rows H3 H4 D4 as4 w S.rb →
    H4 t = none → H5 = upd H4 t (.tup [.ref D3, .ref D1, .ref D2, .ref D4]) → Q (.ref t) H5
def spW_do : Sp := fun vs H Q _ => ∃ (p L R dn : Addr) (u : V) (Z : Addr → Prop) (h w B : Nat) (S : Sta) (ds : List (Bool × Tn)) (b : Bool) (t : Tn), vs = [.ref p, .bl b, u] ∧ TurnerW K CL CT H Z p L R dn h w S ds B ∧ Rep K H u (dTn t) ∧ okTn (if b then h else w) t ∧ tB 3 t ∧ B ≤ 1000000 ∧ ds.length < 1000 ∧
  AfterW K CL CT H Z p L R dn h w (if b then S.row t else S.col t) (ds ++ [(b, t)]) (B + 4) Q
def spW_back : Sp := fun vs H Q _ => ∃ (p L R dn : Addr) (Z : Addr → Prop) (h w B : Nat) (S : Sta) (ds : List (Bool × Tn)), vs = [.ref p] ∧ TurnerW K CL CT H Z p L R dn h w S ds B ∧ B ≤ 1000000 ∧
  (ds = [] → ∀ H', Same H H' → Q (.int 1) H') ∧ ∀ ds0 q, ds = ds0 ++ [q] → ∀ H', Fr4 p L R dn H H' → TurnerW K CL CT H' Z p L R dn h w (S.tk q) ds0 (B + 4) → Q (.int 0) H'
end
end Hb

set_option Elab.async false
set_option linter.all false
set_option maxRecDepth 100000
set_option maxHeartbeats 4000000

namespace Hb
open PySem L2
def dR (rows : List (List Int)) : L2.D := .lst (rows.map fun r => .lst (nums r))
def rowsOf (h w : Nat) (f : Nat → Nat → Int) : List (List Int) := (List.range h).map fun i => lsI w (f i)
theorem dT_dR (h w : Nat) (f : Nat → Nat → Int) : dT h w f = dR (rowsOf h w f) := by
  unfold dT dR rowsOf
  rw [List.map_map]
  rfl
theorem rowsOf_len (h w : Nat) (f : Nat → Nat → Int) : (rowsOf h w f).length = h := by unfold rowsOf; rw [List.length_map, List.length_range]
structure TabAt (H : Hp) (D : Addr) (as : List Addr) (rows : List (List Int)) : Prop where
  «at» : H D = some (.lst (as.map V.ref))
  len : as.length = rows.length
  row : ∀ (j : Nat) a r, as[j]? = some a → rows[j]? = some r → H a = some (.lst (r.map V.int))
section
variable {K : PySem.W.Frag} {H H' : Hp} {D : Addr} {as : List Addr} {rows : List (List Int)}
theorem reps_rows : ∀ {as : List Addr} {rows : List (List Int)}, as.length = rows.length → (∀ (j : Nat) a r, as[j]? = some a → rows[j]? = some r → H a = some (.lst (r.map V.int))) → Reps K H (as.map V.ref) (rows.map fun r => .lst (nums r))
  | [], [], _, _ => rfl
  | a :: as, r :: rows, hl, h => ⟨_, _, rfl, ⟨a, _, rfl, .of (h 0 a r rfl rfl), reps_nums.mpr rfl⟩, reps_rows (by simpa using hl) fun j b q h1 h2 => h (j + 1) b q (by simpa using h1) (by simpa using h2)⟩
  | [], _ :: _, hl, _ => by simp at hl
  | _ :: _, [], hl, _ => by simp at hl
theorem TabAt.rep (x : TabAt H D as rows) : Rep K H (.ref D) (dR rows) := ⟨D, _, rfl, .of x.at, reps_rows x.len x.row⟩
theorem TabAt.same (x : TabAt H D as rows) (s : Same H H') : TabAt H' D as rows := ⟨s _ _ x.at, x.len, fun j a r h1 h2 => s _ _ (x.row j a r h1 h2)⟩
theorem TabAt.put {y : Addr} {o : HO} (x : TabAt H D as rows) (h1 : D ≠ y) (h2 : ∀ a ∈ as, a ≠ y) : TabAt (upd H y o) D as rows :=
  ⟨by rw [upd_ne h1]; exact x.at, x.len, fun j a r e1 e2 => by rw [upd_ne (h2 a (List.mem_of_getElem? e1))]; exact x.row j a r e1 e2⟩
theorem TabAt.push {n : Addr} {r : List Int} (x : TabAt H D as rows) (hn : H n = some (.lst (r.map V.int))) (hnD : n ≠ D) (has : ∀ a ∈ as, a ≠ D) : TabAt (upd H D (.lst (as.map V.ref ++ [.ref n]))) D (as ++ [n]) (rows ++ [r]) := by
  refine ⟨by rw [upd_same, List.map_append]; rfl, by rw [List.length_append, List.length_append, x.len]; rfl, fun j a q e1 e2 => ?_⟩
  by_cases hj : j < as.length
  · rw [List.getElem?_append_left hj] at e1
    rw [List.getElem?_append_left (by rw [← x.len]; exact hj)] at e2
    rw [upd_ne (has a (List.mem_of_getElem? e1))]
    exact x.row j a q e1 e2
  · rw [List.getElem?_append_right (by omega)] at e1
    rw [List.getElem?_append_right (by rw [← x.len]; omega)] at e2
    rw [← x.len] at e2
    have : j - as.length = 0 := by
      have := (List.getElem?_eq_some_iff.mp e1).1
      simp at this
      omega
    rw [this] at e1 e2
    cases e1
    cases e2
    rw [upd_ne hnD]
    exact hn

theorem TabAt.hid {W : Addr → Prop} {H0 : Hp} (x : TabAt H D as rows) (hw : ∀ a, W a → H0 a ≠ none) (h1 : H0 D = none) (h2 : ∀ a ∈ as, H0 a = none) : TabAt (hide H W) D as rows :=
  ⟨by rw [hide_no fun z => hw D z h1]; exact x.at, x.len, fun j a r e1 e2 => by rw [hide_no fun z => hw a z (h2 a (List.mem_of_getElem? e1))]; exact x.row j a r e1 e2⟩
theorem Rows.tab {h w : Nat} {f : Nat → Nat → Int} {H1 : Hp} (R : Rows H H1 D as w f) (hl : as.length = h) : TabAt H1 D as (rowsOf h w f) := by
  refine ⟨R.at, by rw [rowsOf_len]; exact hl, fun j a r e1 e2 => ?_⟩
  have hj := (List.getElem?_eq_some_iff.mp e1).1
  unfold rowsOf at e2
  rw [List.getElem?_map, List.getElem?_range (by omega)] at e2
  cases e2
  exact (R.row j a e1).2.2
theorem TabAt.toRows {h w : Nat} {f : Nat → Nat → Int} {H1 : Hp} (x : TabAt H1 D as (rowsOf h w f)) (s : Same H H1) (n : H D = none) (m : ∀ a ∈ as, H a = none ∧ a ≠ D) : as.length = h ∧ Rows H H1 D as w f := by
  have hl : as.length = h := by rw [x.len, rowsOf_len]
  refine ⟨hl, s, n, x.at, fun j a e => ?_⟩
  have hj : j < h := by rw [← hl]; exact (List.getElem?_eq_some_iff.mp e).1
  obtain ⟨m1, m2⟩ := m a (List.mem_of_getElem? e)
  refine ⟨m1, m2, x.row j a (lsI w (f j)) e ?_⟩
  unfold rowsOf
  rw [List.getElem?_map, List.getElem?_range hj]
  rfl
theorem Rows.new {w : Nat} {f : Nat → Nat → Int} {H1 : Hp} (R : Rows H H1 D as w f) : ∀ a ∈ as, H a = none ∧ a ≠ D := fun a ha => by
  obtain ⟨j, hj⟩ := List.getElem?_of_mem ha
  exact ⟨(R.row j a hj).1, (R.row j a hj).2.1⟩
theorem dR_sq {v : V} (r : Rep K H v (dR rows)) : ∃ a us, v = .ref a ∧ SqL K H a us ∧ us.length = rows.length ∧ ∀ (i : Nat) u, us[i]? = some u → ∃ q b, rows[i]? = some q ∧ u = .ref b ∧ SqL K H b (q.map V.int) := by
  obtain ⟨a, us, e, q, r⟩ := r
  refine ⟨a, us, e, q, by have := r.length; simpa using this, fun i u hu => ?_⟩
  obtain ⟨d, hd, rd⟩ := r.getV hu
  rw [List.getElem?_map] at hd
  cases hr : rows[i]? with
  | none => rw [hr] at hd; cases hd
  | some q' =>
    rw [hr] at hd
    cases hd
    obtain ⟨b, ws, rfl, hb, rb⟩ := rd
    cases reps_nums.mp rb
    exact ⟨q', b, rfl, rfl, hb⟩
theorem dep_dR (rows : List (List Int)) : dep (dR rows) ≤ 4 := by
  have go : ∀ rows : List (List Int), deps (rows.map fun r => L2.D.lst (nums r)) ≤ 2 := fun rows => by
    induction rows with
    | nil => simp [deps]
    | cons r rs ih =>
      have h1 : deps (nums r) = 0 := deps_nums r
      simp only [List.map_cons, deps, dep, h1]
      omega
  have := go rows
  show deps _ + 1 ≤ 4
  omega
end
theorem at_last (us : List V) (y : V) : atI (us ++ [y]) (-1) = some y := by
  unfold atI ixN
  have hl : (us ++ [y]).length = us.length + 1 := by simp
  rw [hl, if_neg (by omega), if_pos (by omega)]
  have : (-1 + ((us.length + 1 : Nat) : Int)).toNat = us.length := by omega
  rw [this, Option.bind_some, List.getElem?_append_right (Nat.le_refl _), Nat.sub_self]
  rfl
theorem hide_of {H0 H : Hp} {W : Addr → Prop} {a : Addr} {o : HO} (hW : ∀ a, W a → H0 a ≠ none) (h0 : H0 a = none) (h : H a = some o) : hide H W a = some o := by
  rw [hide_no fun z => hW a z h0]; exact h
theorem SameX.hid {B : Addr} {H H' : Hp} {W : Addr → Prop} (x : SameX B H H') (hb : W B) : Same (hide H W) (hide H' W) := hide_mono fun a o n e => x a o (fun z => n (z ▸ hb)) e

def dH (q : List (List Int)) : L2.D := .tup [dR q, dR q]
theorem dl_symm (a b : Nat) : dl a b = dl b a := by
  unfold dl
  by_cases z : b = a
  · rw [if_pos z, if_pos z.symm]
  · rw [if_neg z, if_neg (Ne.symm z)]
theorem TabAt.there {H : Hp} {D : Addr} {as : List Addr} {rows : List (List Int)} (x : TabAt H D as rows) : ∀ a ∈ as, ∃ o, H a = some o := fun a ha => by
  obtain ⟨j, hj⟩ := List.getElem?_of_mem ha
  have hl : j < rows.length := by rw [← x.len]; exact (List.getElem?_eq_some_iff.mp hj).1
  exact ⟨_, x.row j a _ hj (List.getElem?_eq_getElem hl)⟩
theorem TabAt.nes {H : Hp} {D y : Addr} {as : List Addr} {rows : List (List Int)} (x : TabAt H D as rows) (h : H y = none) : D ≠ y ∧ ∀ a ∈ as, a ≠ y :=
  ⟨ne_of_none x.at h, fun a ha => by obtain ⟨o, e⟩ := x.there a ha; exact ne_of_none e h⟩

structure NewTab (H G : Hp) (v : V) : Prop where
  ex : ∃ (D : Addr) (as : List Addr) (rows : List (List Int)), v = .ref D ∧ TabAt G D as rows ∧ rows.length ≤ 1000 ∧ H D = none ∧ ∀ a ∈ as, H a = none

theorem held_more {K : PySem.W.Frag} {H0 H H' : Hp} {W : Addr → Prop} {ps : List V} {hs : List (List (List Int))} {q D1 D2 : Addr} {as1 as2 : List Addr} {rows : List (List Int)} (hW : ∀ a, W a → H0 a ≠ none) (r : Reps K (hide H W) ps (hs.map dH)) (s : Same (hide H W) (hide H' W))
    (hq0 : H0 q = none) (hq : H' q = some (.tup [.ref D1, .ref D2])) (t1 : TabAt (hide H' W) D1 as1 rows) (t2 : TabAt (hide H' W) D2 as2 rows) : Reps K (hide H' W) (ps ++ [.ref q]) ((hs ++ [rows]).map dH) := by
  rw [List.map_append]
  exact (Reps.same s r).snoc ⟨q, _, rfl, .of (hide_of hW hq0 hq), ⟨_, _, rfl, t1.rep, ⟨_, _, rfl, t2.rep, rfl⟩⟩⟩
section
variable (K : PySem.W.Frag)
def spW_copy : Sp := fun vs H Q _ => ∃ (v : V) (rows : List (List Int)), vs = [v] ∧ Rep K H v (dR rows) ∧ rows.length ≤ 1000 ∧ ∀ (D : Addr) (as : List Addr) (H' : Hp), Same H H' → H D = none → TabAt H' D as rows → (∀ a ∈ as, H a = none ∧ a ≠ D) → Q (.ref D) H'
def spW_undo : Sp := fun vs H Q _ => ∃ (u v : V) (n B : Nat) (f g : Nat → Nat → Int), vs = [u, v, .int (n : Int)] ∧ Rep K H u (dT n n f) ∧ Rep K H v (dT n n g) ∧ n ≤ 60 ∧ bT B f ∧ bT B g ∧ B ≤ 1000000 ∧
  (∀ a b, a < n → b < n → sumN (fun k => f a k * g k b) n = dl a b) ∧ (∀ a b, a < n → b < n → sumN (fun k => g a k * f k b) n = dl a b) ∧ ∀ H', Same H H' → Q (.bl true) H'
variable (CL CT : Addr)

def spW_now_is : Sp := fun vs H Q _ => ∃ (p L R dn st hd : Addr) (Z W : Addr → Prop) (h w B : Nat) (S : Sta) (ds : List (Bool × Tn)) (us ps : List V) (fs : List (Nat → Nat → Int)) (g : Nat → Nat → Int) (hs : List (List (List Int))),
  vs = [.ref p, .ref st, .int (w : Int), .ref hd] ∧ TurnerW K CL CT H Z p L R dn h w S ds B ∧ SqL K H st us ∧ Reps K H us ((fs ++ [g]).map (dT h w)) ∧ ds.length = fs.length ∧ (∀ i j, i < h → j < w → S.f i j = g i j) ∧ H hd = some (.lst ps) ∧ (∀ a, W a → H a ≠ none) ∧ W hd ∧ Reps K (hide H W) ps (hs.map dH) ∧ hs.length ≤ 10000 ∧
  ∀ (ps' : List V) (hs' : List (List (List Int))) (H' : Hp), SameX hd H H' → H' hd = some (.lst ps') → Reps K (hide H' W) ps' (hs'.map dH) → hs'.length ≤ hs.length + 1 → Q (.bl true) H'
def spW_papers_hold : Sp := fun vs H Q _ => ∃ (p L R dn hd : Addr) (tv nv : V) (Z W : Addr → Prop) (h w B : Nat) (S : Sta) (ds : List (Bool × Tn)) (ps : List V) (g : Nat → Nat → Int) (hs : List (List (List Int))),
  vs = [.ref p, tv, nv, .int (w : Int), .ref hd] ∧ TurnerW K CL CT H Z p L R dn h w S ds B ∧ B ≤ 100000 ∧ bT B S.T ∧ Rep K (hide H W) tv (dT h w S.T) ∧ Rep K (hide H W) nv (dT h w g) ∧ (∀ i j, i < h → j < w → S.f i j = g i j) ∧ H hd = some (.lst ps) ∧ (∀ a, W a → H a ≠ none) ∧ W hd ∧ Reps K (hide H W) ps (hs.map dH) ∧ hs.length ≤ 10000 ∧
  ∀ (ps' : List V) (hs' : List (List (List Int))) (H' : Hp), SameX hd H H' → H' hd = some (.lst ps') → Reps K (hide H' W) ps' (hs'.map dH) → hs'.length ≤ hs.length + 4 → Q (.bl true) H'
end
end Hb

set_option Elab.async false
set_option linter.all false
set_option maxRecDepth 100000
set_option maxHeartbeats 4000000
namespace Hb
open PySem L2
def apT (q : Bool × Tn) (g : Nat → Nat → Int) : Nat → Nat → Int := if q.1 then tnF q.2 g else tnC q.2 g

inductive Chn (f : Nat → Nat → Int) : List (Bool × Tn) → List (Nat → Nat → Int) → (Nat → Nat → Int) → Prop
  | nil : Chn f [] [] f
  | snoc {ds : List (Bool × Tn)} {fs : List (Nat → Nat → Int)} {g : Nat → Nat → Int} (q : Bool × Tn) : Chn f ds fs g → Chn f (ds ++ [q]) (fs ++ [g]) (apT q g)
theorem Chn.len {f : Nat → Nat → Int} {ds : List (Bool × Tn)} {fs : List (Nat → Nat → Int)} {g : Nat → Nat → Int} (x : Chn f ds fs g) : ds.length = fs.length := by
  induction x with
  | nil => rfl
  | snoc q _ ih => simp [ih]
theorem Chn.back {f : Nat → Nat → Int} {ds : List (Bool × Tn)} {q : Bool × Tn} {fs : List (Nat → Nat → Int)} {g : Nat → Nat → Int} (x : Chn f (ds ++ [q]) fs g) : ∃ fs0 g0, fs = fs0 ++ [g0] ∧ g = apT q g0 ∧ Chn f ds fs0 g0 := by
  generalize hd : ds ++ [q] = ds1 at x
  cases x with
  | nil => simp at hd
  | @snoc ds2 fs2 g2 q2 y =>
    obtain ⟨h1, h2⟩ := List.append_inj' hd rfl
    cases h1
    cases h2
    exact ⟨fs2, g2, rfl, rfl, y⟩

theorem back_as {h w : Nat} {q : Bool × Tn} {f g : Nat → Nat → Int} (hq : okTn (if q.1 then h else w) q.2) (e : ∀ i j, i < h → j < w → f i j = apT q g i j) : ∀ i j, i < h → j < w → apT (q.1, tnB q.2) f i j = g i j := by
  intro i j hi hj
  obtain ⟨b, t⟩ := q
  cases b with
  | true =>
    have ht : okTn h t := hq
    show tnF (tnB t) f i j = g i j
    rw [tnF_congr (okTn_back ht) (g := tnF t g) (fun r hr => e r j hr hj) hi]
    exact tnF_back ht g i j
  | false =>
    have ht : okTn w t := hq
    show tnF (tnB t) (fun a b => f b a) j i = g i j
    rw [tnF_congr (okTn_back ht) (g := tnF t fun a b => g b a) (fun r hr => e i r hi hr) hj]
    exact tnF_back ht (fun a b => g b a) j i
theorem apT_congr {h w : Nat} {q : Bool × Tn} {f g : Nat → Nat → Int} (hq : okTn (if q.1 then h else w) q.2) (e : ∀ i j, i < h → j < w → f i j = g i j) : ∀ i j, i < h → j < w → apT q f i j = apT q g i j := by
  intro i j hi hj
  obtain ⟨b, t⟩ := q
  cases b with
  | true => exact tnF_congr (show okTn h t from hq) (fun r hr => e r j hr hj) hi
  | false => exact tnF_congr (f := fun a b => f b a) (g := fun a b => g b a) (show okTn w t from hq) (fun r hr => e i r hi hr) hj
theorem tk_f (S : Sta) (q : Bool × Tn) : (S.tk q).f = apT (q.1, tnB q.2) S.f ∧ (S.tk q).T = S.T := by
  obtain ⟨b, t⟩ := q
  cases b <;> exact ⟨rfl, rfl⟩
theorem ap_f (S : Sta) (b : Bool) (t : Tn) : (if b then S.row t else S.col t).f = apT (b, t) S.f ∧ (if b then S.row t else S.col t).T = S.T := by
  cases b <;> exact ⟨rfl, rfl⟩
theorem bT.ap {B : Nat} {f : Nat → Nat → Int} {q : Bool × Tn} (h : bT B f) (hq : tB 3 q.2) : bT (B + 4) (apT q f) := by
  obtain ⟨b, t⟩ := q
  cases b
  · exact h.cols3 hq
  · exact h.turn3 hq
section
variable {K : PySem.W.Frag} {CL CT : Addr} {H H' : Hp} {Z : Addr → Prop} {p L R dn : Addr} {h w B : Nat} {S : Sta} {ds : List (Bool × Tn)}

theorem TurnerW.frame {M : Addr → Prop} (x : TurnerW K CL CT H Z p L R dn h w S ds B) (hM : ∀ a, M a → Z a ∧ a ≠ p ∧ a ≠ L ∧ a ≠ R ∧ a ≠ dn) (hk : ∀ a o, ¬ M a → H a = some o → H' a = some o) (ts : TSame H H') (kp : Kp H H') : TurnerW K CL CT H' Z p L R dn h w S ds B := by
  refine x.other (fun a o hz e => hk a o (fun m => ?_) e) ts kp
  obtain ⟨m1, m2, m3, m4, m5⟩ := hM a m
  rcases hz with z | z | z | z | z
  · exact z m1
  · exact m2 z
  · exact m3 z
  · exact m4 z
  · exact m5 z
theorem TurnerW.here (x : TurnerW K CL CT H Z p L R dn h w S ds B) : H p ≠ none ∧ H L ≠ none ∧ H R ≠ none ∧ H dn ≠ none := ⟨x.zh _ x.z.1, x.zh _ x.z.2.1, x.zh _ x.z.2.2.1, x.zh _ x.z.2.2.2⟩
theorem Fr4.kp {H' : Hp} {S' : Sta} {ds' : List (Bool × Tn)} {B' : Nat} (fr : Fr4 p L R dn H H') (y : TurnerW K CL CT H' Z p L R dn h w S' ds' B') : Kp H H' := fun a ha => by
  obtain ⟨y1, y2, y3, y4⟩ := y.here
  by_cases e1 : a = p
  · rw [e1]; exact y1
  by_cases e2 : a = L
  · rw [e2]; exact y2
  by_cases e3 : a = R
  · rw [e3]; exact y3
  by_cases e4 : a = dn
  · rw [e4]; exact y4
  cases e : H a with
  | none => exact absurd e ha
  | some o => rw [fr a o e1 e2 e3 e4 e]; intro z; cases z
theorem SameX.kp {hd : Addr} {o : HO} (sx : SameX hd H H') (e : H' hd = some o) : Kp H H' := fun a ha => by
  by_cases e1 : a = hd
  · rw [e1, e]; intro z; cases z
  · cases q : H a with
    | none => exact absurd q ha
    | some u => rw [sx a u e1 q]; intro z; cases z
end
def W5 (p L R dn hd : Addr) : Addr → Prop := fun a => a = p ∨ a = L ∨ a = R ∨ a = dn ∨ a = hd
theorem Fr4.hidW {p L R dn hd : Addr} {H H' : Hp} (fr : Fr4 p L R dn H H') : Same (hide H (W5 p L R dn hd)) (hide H' (W5 p L R dn hd)) :=
  hide_mono fun a o n e => fr a o (fun z => n (.inl z)) (fun z => n (.inr (.inl z))) (fun z => n (.inr (.inr (.inl z)))) (fun z => n (.inr (.inr (.inr (.inl z))))) e

structure Stat (K : PySem.W.Frag) (CL CT : Addr) (H : Hp) (p L R dn p2 L2 R2 dn2 hd a C A : Addr) (Z1 Z2 : Addr → Prop) (ns cs : List Int) (h w : Nat) (f : Nat → Nat → Int) : Prop where
  x2 : TurnerW K CL CT H Z2 p2 L2 R2 dn2 h w (Sta.first f) [] 200
  sc : SqL K (hide H (W5 p L R dn hd)) a (ns.map V.int)
  cc : SqL K (hide H (W5 p L R dn hd)) C (cs.map V.int)
  tb : Rep K (hide H (W5 p L R dn hd)) (.ref A) (dT h w f)
  z1 : Z1 hd
  z2 : Z2 p ∧ Z2 L ∧ Z2 R ∧ Z2 dn ∧ Z2 hd
  n1 : hd ≠ p ∧ hd ≠ L ∧ hd ≠ R ∧ hd ≠ dn
  n2 : ∀ c, W5 p L R dn hd c → c ≠ p2 ∧ c ≠ L2 ∧ c ≠ R2 ∧ c ≠ dn2
structure Live (K : PySem.W.Frag) (CL CT : Addr) (H : Hp) (p L R dn st hd : Addr) (Z1 : Addr → Prop) (h w : Nat) (f : Nat → Nat → Int) (i j : Nat) : Prop where
  ex : ∃ (S : Sta) (ds : List (Bool × Tn)) (B : Nat) (fs : List (Nat → Nat → Int)) (g : Nat → Nat → Int) (us ps : List V) (hs : List (List (List Int))), TurnerW K CL CT H Z1 p L R dn h w S ds B ∧ S.T = f ∧ 200 ≤ B ∧ B ≤ 200 + 4 * i ∧ Chn f ds fs g ∧ (∀ i j, i < h → j < w → S.f i j = g i j) ∧ (∀ fn ∈ fs ++ [g], bT B fn) ∧
    SqL K (hide H (W5 p L R dn hd)) st us ∧ Reps K (hide H (W5 p L R dn hd)) us ((fs ++ [g]).map (dT h w)) ∧ H hd = some (.lst ps) ∧ Reps K (hide H (W5 p L R dn hd)) ps (hs.map dH) ∧ hs.length ≤ j ∧ ds.length ≤ i
section
variable {K : PySem.W.Frag} {CL CT : Addr} {H H' : Hp} {p L R dn p2 L2 R2 dn2 st hd a C A : Addr} {Z1 Z2 : Addr → Prop} {ns cs : List Int} {h w i j : Nat} {f : Nat → Nat → Int}
theorem Stat.go (x : Stat K CL CT H p L R dn p2 L2 R2 dn2 hd a C A Z1 Z2 ns cs h w f) (hk : ∀ c o, ¬ W5 p L R dn hd c → H c = some o → H' c = some o) (ts : TSame H H') (kp : Kp H H') : Stat K CL CT H' p L R dn p2 L2 R2 dn2 hd a C A Z1 Z2 ns cs h w f := by
  have sh : Same (hide H (W5 p L R dn hd)) (hide H' (W5 p L R dn hd)) := hide_mono fun c o n e => hk c o n e
  refine ⟨x.x2.frame (M := W5 p L R dn hd) (fun c hc => ?_) hk ts kp, sh.seq x.sc, sh.seq x.cc, Rep.same sh x.tb, x.z1, x.z2, x.n1, x.n2⟩
  obtain ⟨q1, q2, q3, q4, q5⟩ := x.z2
  refine ⟨?_, x.n2 c hc⟩
  rcases hc with rfl | rfl | rfl | rfl | rfl
  · exact q1
  · exact q2
  · exact q3
  · exact q4
  · exact q5
theorem Stat.same (x : Stat K CL CT H p L R dn p2 L2 R2 dn2 hd a C A Z1 Z2 ns cs h w f) (s : Same H H') : Stat K CL CT H' p L R dn p2 L2 R2 dn2 hd a C A Z1 Z2 ns cs h w f := x.go (fun c o _ e => s c o e) s.t (Kp.of s)
theorem Live.same (x : Live K CL CT H p L R dn st hd Z1 h w f i j) (s : Same H H') : Live K CL CT H' p L R dn st hd Z1 h w f i j := by
  obtain ⟨S, ds, B, fs, g, us, ps, hs, h1, h2, h3, h4, h5, h6, h7, h8, h9, h10, h11, h12⟩ := x.ex
  exact ⟨S, ds, B, fs, g, us, ps, hs, h1.same s, h2, h3, h4, h5, h6, h7, (same_hid s).seq h8, Reps.same (same_hid s) h9, s _ _ h10, Reps.same (same_hid s) h11, h12⟩
theorem Stat.act {S S' : Sta} {ds ds' : List (Bool × Tn)} {B B' : Nat} (x : Stat K CL CT H p L R dn p2 L2 R2 dn2 hd a C A Z1 Z2 ns cs h w f) (y : TurnerW K CL CT H Z1 p L R dn h w S ds B) (fr : Fr4 p L R dn H H') (y' : TurnerW K CL CT H' Z1 p L R dn h w S' ds' B') : Stat K CL CT H' p L R dn p2 L2 R2 dn2 hd a C A Z1 Z2 ns cs h w f :=
  x.go (fun c o n e => fr c o (fun z => n (.inl z)) (fun z => n (.inr (.inl z))) (fun z => n (.inr (.inr (.inl z)))) (fun z => n (.inr (.inr (.inr (.inl z))))) e) (y.t fr) (fr.kp y')
theorem Stat.held {ps : List V} {o : HO} (x : Stat K CL CT H p L R dn p2 L2 R2 dn2 hd a C A Z1 Z2 ns cs h w f) (e : H hd = some (.lst ps)) (sx : SameX hd H H') (e' : H' hd = some o) : Stat K CL CT H' p L R dn p2 L2 R2 dn2 hd a C A Z1 Z2 ns cs h w f :=
  x.go (fun c o n e => sx c o (fun z => n (.inr (.inr (.inr (.inr z))))) e) (sx.t e) (sx.kp e')
theorem TurnerW.held {S : Sta} {ds : List (Bool × Tn)} {B : Nat} {ps : List V} {o : HO} (y : TurnerW K CL CT H Z1 p L R dn h w S ds B) (x : Stat K CL CT H p L R dn p2 L2 R2 dn2 hd a C A Z1 Z2 ns cs h w f) (e : H hd = some (.lst ps)) (sx : SameX hd H H') (e' : H' hd = some o) : TurnerW K CL CT H' Z1 p L R dn h w S ds B :=
  y.frame (M := fun c => c = hd) (fun c hc => by rw [hc]; exact ⟨x.z1, x.n1⟩) (fun c o n e => sx c o n e) (sx.t e) (sx.kp e')
theorem hide_sub {Z W : Addr → Prop} (hs : ∀ c, W c → Z c) : Same (hide H Z) (hide H W) := fun c o e => by
  by_cases hz : Z c
  · rw [hide_yes hz] at e; cases e
  · rw [hide_no hz] at e
    rw [hide_no fun z => hz (hs c z)]
    exact e
theorem Fr4.hd5 (fr : Fr4 p L R dn H H') (n : hd ≠ p ∧ hd ≠ L ∧ hd ≠ R ∧ hd ≠ dn) {o : HO} (e : H hd = some o) : H' hd = some o := fr hd o n.1 n.2.1 n.2.2.1 n.2.2.2 e
theorem live_W (x : Live K CL CT H p L R dn st hd Z1 h w f i j) : ∀ q, W5 p L R dn hd q → H q ≠ none := by
  obtain ⟨S, ds, B, fs, g, us, ps, hs, x1, _, _, _, _, _, _, _, _, ehd, _⟩ := x.ex
  obtain ⟨q1, q2, q3, q4⟩ := x1.here
  rintro q (rfl | rfl | rfl | rfl | rfl)
  · exact q1
  · exact q2
  · exact q3
  · exact q4
  · rw [ehd]; intro z; cases z
theorem states_new {W : Addr → Prop} {q : Addr} {us : List V} (hW : ∀ c, W c → H c ≠ none) (hq : H q = none) : SqL K (hide (upd H q (.lst us)) W) q us := .of (by rw [hide_no fun z => hW q z hq]; exact upd_same)
theorem dTn_ref {v : V} {t : Tn} (r : Rep K H v (dTn t)) : ∃ c, v = .ref c := by
  cases t <;> (obtain ⟨c, _, e, _⟩ := r; exact ⟨c, e⟩)
end
end Hb

set_option Elab.async false
set_option linter.all false
set_option maxRecDepth 100000
set_option maxHeartbeats 4000000
namespace Hb
open PySem L2
def top (i : Nat) : Stmt := PySem.Challenge.pw_holebook_k22_whole_turns_and_papers.main.body.getD i (.Pass ⟨0, 0, 0, 0⟩)
structure Txt (K : PySem.W.Frag) (mg : Str → Option Value) (C_NoTurn C_Lines C_Turner : Addr) : Prop where
  m_NoTurn : mg "NoTurn" = some (.ref C_NoTurn)
  e_NoTurn : PySem.W.excIn K C_NoTurn bmV "ValueError.__new__" = true
  k_NoTurn : PySem.W.ktsIn K C_NoTurn "BaseException" = true
  s_NoTurn_NoTurn : PySem.W.subIn K (.ref C_NoTurn) (.ref C_NoTurn) = some true
  m_Lines : mg "Lines" = some (.ref C_Lines)
  cl_Lines : Cls K C_Lines
  na_Lines_rows : NoAttr K C_Lines "rows"
  na_Lines_backs : NoAttr K C_Lines "backs"
  m_Turner : mg "Turner" = some (.ref C_Turner)
  cl_Turner : Cls K C_Turner
  na_Turner_table : NoAttr K C_Turner "table"
  na_Turner_width : NoAttr K C_Turner "width"
  na_Turner_left : NoAttr K C_Turner "left"
  na_Turner_right : NoAttr K C_Turner "right"
  na_Turner_done : NoAttr K C_Turner "done"
  x_MOST_ROWS : ∃ t, mg "MOST_ROWS" = some (.int 40 t)
  n_isinstance : mg "isinstance" = none
  n_int : mg "int" = none
  n_bool : mg "bool" = none
  n_all : mg "all" = none
  n_list : mg "list" = none
  n_len : mg "len" = none
  n_range : mg "range" = none
  n_zip : mg "zip" = none
  n_tuple : mg "tuple" = none
  n_str : mg "str" = none
  n_max : mg "max" = none
def cutI (ns : List Int) (lo hi : Option Int) : List Int := (ns.drop (HT.sIx ns.length 0 lo)).take (HT.sIx ns.length ns.length hi - HT.sIx ns.length 0 lo)
theorem cutV_map (ns : List Int) (lo hi : Option Int) : cutV (ns.map V.int) lo hi = (cutI ns lo hi).map V.int := by
  unfold cutV cutI
  rw [List.length_map, List.map_take, List.map_drop]
theorem cutI_len (ns : List Int) (lo hi : Option Int) : (cutI ns lo hi).length ≤ ns.length := by
  unfold cutI
  rw [List.length_take, List.length_drop]
  omega

theorem cutI_mem {ns : List Int} {lo hi : Option Int} {x : Int} (h : x ∈ cutI ns lo hi) : x ∈ ns := List.mem_of_mem_drop (List.mem_of_mem_take h)
theorem delta_row (n i : Nat) (h : i < n) : (List.replicate i [V.int 0]).flatten ++ [V.int 1] ++ (List.replicate (n - i - 1) [V.int 0]).flatten = VI n fun j => if j = i then 1 else 0 := by
  rw [VI_rep, VI_rep]
  refine List.ext_getElem? fun j => ?_
  by_cases hj : j < n
  · rw [VI_get hj]
    by_cases h1 : j < i
    · rw [List.getElem?_append_left (by simp [lsI_len]; omega), List.getElem?_append_left (by simp [lsI_len]; omega), VI_get h1, if_neg (by omega)]
    · by_cases h2 : j = i
      · subst h2
        rw [List.getElem?_append_left (by simp [lsI_len]), List.getElem?_append_right (by simp [lsI_len]), if_pos rfl]
        simp [lsI_len]
      · rw [List.getElem?_append_right (by simp [lsI_len]; omega), if_neg h2]
        rw [VI_get (by simp [lsI_len]; omega)]
  · rw [List.getElem?_eq_none (by simp [lsI_len]; omega), List.getElem?_eq_none (by simp [lsI_len]; omega)]
theorem ndc_0 : (["row", "width"] : List Str).Nodup := by decide +kernel
theorem ndc_1 : (["number"] : List Str).Nodup := by decide +kernel
theorem ndc_2 : (["j", "table"] : List Str).Nodup := by decide +kernel
theorem ndc_3 : (["row", "j"] : List Str).Nodup := by decide +kernel
theorem ndc_4 : (["i", "size"] : List Str).Nodup := by decide +kernel
theorem ndc_5 : (["j", "i"] : List Str).Nodup := by decide +kernel
theorem ndc_6 : (["left", "right", "a", "b"] : List Str).Nodup := by decide +kernel
theorem ndc_7 : (["row"] : List Str).Nodup := by decide +kernel
theorem ndc_8 : (["_law_row"] : List Str).Nodup := by decide +kernel
theorem ndc_9 : (["_law_row", "_law_j"] : List Str).Nodup := by decide +kernel
theorem ndc_10 : (["_law_number"] : List Str).Nodup := by decide +kernel
theorem ndc_11 : (["_law_number", "_law_more", "_law_turn"] : List Str).Nodup := by decide +kernel
section
variable {P : Program} {w : World} {K : PySem.W.Frag} {mg : Str → Option Value} {base : Heap} {C_NoTurn C_Lines C_Turner : Addr}
abbrev s_is_whole : Stmt := top 6
theorem sc_is_whole : FnScope ["thing"] ["thing"] (defScope s_is_whole) := ⟨rfl, rfl, rfl, by decide +kernel, rfl, by decide +kernel, by decide +kernel⟩
theorem ok_is_whole {f : Addr} {fd : FuncData} (F : Fun K "is_whole" "is_whole" s_is_whole f fd) (T : Txt K mg C_NoTurn C_Lines C_Turner)  : FnOk P w K mg base CX0 1 f fd ["thing"] (sp_is_whole K) := by
  refine F.ok sc_is_whole (fun vs H Q E h => ?_) (fun cdv A outer s H vs Q E hr h => ?_)
  · obtain ⟨x, d, rfl, hx, k⟩ := h
    rfl
  · obtain ⟨x, d, rfl, hx, k⟩ := h
    refine ⟨_, (pss_one (ps_ret (pe_and (pe_callB (kcall_isinst (K := K)) (by rfl) T.n_isinstance boot_isinstanceB (pa_cons (pv 0) (pa_cons (pe_bltn (v := .ty "int") rfl T.n_int boot_intT rfl) pa_nil))) (pe_one (pe_not (pe_callB (kcall_isinst (K := K)) (by rfl) T.n_isinstance boot_isinstanceB (pa_cons (pv 0) (pa_cons (pe_bltn (v := .ty "bool") rfl T.n_bool boot_boolT rfl) pa_nil)))))))), ?_⟩
    refine ⟨_, rfl, _, _, d, rfl, .inl rfl, hx, _, rfl, ?_⟩
    refine ite2 (fun e => ?_) (fun e => ?_)
    · refine ⟨_, rfl, _, _, d, rfl, .inr (.inl rfl), hx, _, rfl, ?_⟩
      have e2 : wholeD d = !isD "bool" d := by unfold wholeD; rw [e]; rfl
      rw [e2] at k
      exact k
    · have e2 : wholeD d = false := by unfold wholeD; simp [e]
      rw [e2] at k
      exact k
abbrev s_column : Stmt := top 13
theorem sc_column : FnScope ["table", "j"] ["table", "j"] (defScope s_column) := ⟨rfl, rfl, rfl, by decide +kernel, rfl, by decide +kernel, by decide +kernel⟩
theorem ok_column {f : Addr} {fd : FuncData} (F : Fun K "column" "column" s_column f fd) (T : Txt K mg C_NoTurn C_Lines C_Turner)  : FnOk P w K mg base CX0 1 f fd ["table", "j"] (sp_column K) := by
  refine F.ok sc_column (fun vs H Q E h => ?_) (fun cdv A outer s H vs Q E hr h => ?_)
  · obtain ⟨v, h, w, j, f, rfl, hv, hh, hj, k⟩ := h
    rfl
  · obtain ⟨v, h, w, j, f, rfl, hv, hh, hj, k⟩ := h
    refine ⟨_, (pss_one (ps_ret (pe_comp (N' := ["row", "j"]) (cap := [none, some 1]) (by rfl) (by kernel_rfl) (kpi_list (K := K) (pv 0)) (fun _ _ _ _ => (pg_name (i := 0) ndc_3 (by rfl) (by first | exact Or.inl rfl | exact Or.inr rfl))) (fun _ _ _ _ => pts_nil) (fun _ _ _ _ => (pe_ix (kix_list (K := K)) (pv 0) (pv 1) (fun _ _ => rfl)))))), ?_⟩
    obtain ⟨a, us, rfl, hq, hul, hrow⟩ := dT_sq hv
    refine ⟨_, rfl, a, rfl, ⟨_, hq⟩, fun D hD => ?_⟩
    refine comp_list0 (K := K) (a := a) (xs := us) (fun i ys τ H1 => Same H H1 ∧ H1 D = some (.lst ys) ∧ ys = VI i (fun i => f i j) ∧ ∃ o, τ = [o, some (.int j)])
      ⟨Same.new hD, upd_same, rfl, none, rfl⟩ (fun i ys τ H1 _ ⟨s1, _⟩ => s1.seq hq) ?_ ?_
    · rintro i x ys τ H1 hx ⟨s1, hD1, rfl, o, rfl⟩
      obtain ⟨hi, b, rfl, hb⟩ := hrow i _ hx
      refine ⟨_, rfl, _, rfl, b, _, _, _, rfl, rfl, s1.seq hb, VI_at hj, ?_⟩
      refine ⟨hD1, small (by rw [VI_len]; omega), s1.turn hD, upd_same, ?_, _, rfl⟩
      rw [VI_succ]
    · rintro ys τ H1 ⟨s1, hD1, rfl, _⟩
      rw [hul] at hD1
      exact k D H1 hD s1 hD1
abbrev s_one_row : Stmt := top 15
theorem sc_one_row : FnScope ["size", "i"] ["size", "i"] (defScope s_one_row) := ⟨rfl, rfl, rfl, by decide +kernel, rfl, by decide +kernel, by decide +kernel⟩
theorem ok_one_row {f : Addr} {fd : FuncData} (F : Fun K "one_row" "one_row" s_one_row f fd) (T : Txt K mg C_NoTurn C_Lines C_Turner)  : FnOk P w K mg base CX0 1 f fd ["size", "i"] (sp_one_row K) := by
  refine F.ok sc_one_row (fun vs H Q E h => ?_) (fun cdv A outer s H vs Q E hr h => ?_)
  · obtain ⟨n, i, rfl, hn, k⟩ := h
    rfl
  · obtain ⟨n, i, rfl, hn, k⟩ := h
    refine ⟨_, (pss_one (ps_ret (pe_comp (N' := ["j", "i"]) (cap := [none, some 1]) (by rfl) (by kernel_rfl) (pi_range1 (by rfl) T.n_range (pa_cons (pv 0) pa_nil)) (fun _ _ _ _ => (pg_name (i := 0) ndc_5 (by rfl) (by first | exact Or.inl rfl | exact Or.inr rfl))) (fun _ _ _ _ => pts_nil) (fun _ _ _ _ => (pe_ifExp (pt_cmpR op_eq (pv 0) (pv 1) (nomark _)) pe_int pe_int))))), ?_⟩
    refine ⟨_, rfl, _, rfl, by omega, by omega, fun D hD => ?_⟩
    refine comp_range0 (fun j ys τ H1 => Same H H1 ∧ H1 D = some (.lst ys) ∧ ys = VI j (fun j => if j = i then 1 else 0) ∧ ∃ o, τ = [o, some (.int i)])
      ⟨Same.new hD, upd_same, rfl, none, rfl⟩ ?_ ?_
    · rintro j ys τ H1 hj ⟨s1, hD1, rfl, o, rfl⟩
      refine ⟨_, rfl, _, rfl, rfl, _, rfl, ?_⟩
      have sz : (VI j fun j => if j = i then 1 else 0).length < sizeLine := small (by rw [VI_len]; omega)
      refine ite2 (fun h1 => ?_) (fun h1 => ?_)
      · have e0 : (0 : Int) + (j : Int) = (i : Int) := by simpa using h1
        have e : j = i := by omega
        refine ⟨hD1, sz, s1.turn hD, upd_same, ?_, _, rfl⟩
        rw [VI_succ, if_pos e]
      · have e0 : ¬ (0 : Int) + (j : Int) = (i : Int) := by simpa using h1
        have e : ¬ j = i := by omega
        refine ⟨hD1, sz, s1.turn hD, upd_same, ?_, _, rfl⟩
        rw [VI_succ, if_neg e]
    · rintro ys τ H1 ⟨s1, hD1, rfl, _⟩
      rw [Int.toNat_natCast] at hD1
      exact k D H1 hD s1 hD1
abbrev s_mixed : Stmt := top 16
theorem sc_mixed : FnScope ["a", "one", "b", "other"] ["a", "one", "b", "other"] (defScope s_mixed) := ⟨rfl, rfl, rfl, by decide +kernel, rfl, by decide +kernel, by decide +kernel⟩
theorem ok_mixed {f : Addr} {fd : FuncData} (F : Fun K "mixed" "mixed" s_mixed f fd) (T : Txt K mg C_NoTurn C_Lines C_Turner)  : FnOk P w K mg base CX0 1 f fd ["a", "one", "b", "other"] (sp_mixed K) := by
  refine F.ok sc_mixed (fun vs H Q E h => ?_) (fun cdv A outer s H vs Q E hr h => ?_)
  · obtain ⟨a, b, x, y, n, p, q, rfl, hx, hy, hn, hm, k⟩ := h
    rfl
  · obtain ⟨a, b, x, y, n, p, q, rfl, hx, hy, hn, hm, k⟩ := h
    refine ⟨_, (pss_one (ps_ret (pe_comp (N' := ["left", "right", "a", "b"]) (cap := [none, none, some 0, some 2]) (by rfl) (by kernel_rfl) (pi_zip (K := K) (by rfl) T.n_zip (pa_cons (pv 1) (pa_cons (pv 3) pa_nil))) (fun _ _ _ _ => (kpg_tup (K := K) (n := 2) (by rfl) (pgs_cons (pg_name (i := 0) ndc_6 (by rfl) (by first | exact Or.inl rfl | exact Or.inr rfl)) (pgs_cons (pg_name (i := 1) ndc_6 (by rfl) (by first | exact Or.inl rfl | exact Or.inr rfl)) pgs_nil)))) (fun _ _ _ _ => pts_nil) (fun _ _ _ _ => (pe_op op_add (pe_op op_mulX (pv 2) (pv 0)) (pe_op op_mulX (pv 3) (pv 1))))))), ?_⟩
    refine ⟨_, rfl, _, rfl, x, y, rfl, ⟨_, hx⟩, ⟨_, hy⟩, fun D hD => ?_⟩
    refine comp_zip0 (K := K) (a := x) (b := y) (xs := VI n p) (ys := VI n q) (n := n) (by rw [VI_len, VI_len, Nat.min_self]) (fun i zs τ H1 => Same H H1 ∧ H1 D = some (.lst zs) ∧ zs = VI i (fun j => a * p j + b * q j) ∧ ∃ o1 o2, τ = [o1, o2, some (.int a), some (.int b)])
      ⟨Same.new hD, upd_same, rfl, none, none, rfl⟩ (fun i zs τ H1 _ ⟨s1, _⟩ => ⟨s1.seq hx, s1.seq hy⟩) ?_ ?_
    · rintro i u v zs τ H1 pr hu hv ⟨s1, hD1, rfl, o1, o2, rfl⟩ hp
      obtain ⟨hi, rfl⟩ := VI_inv hu
      obtain ⟨_, rfl⟩ := VI_inv hv
      have sp : Same H1 (upd H1 pr (.tup [.int (p i), .int (q i)])) := Same.new hp
      refine ⟨pr, _, rfl, .of upd_same, rfl, _, _, rfl, _, _, rfl, rfl, ?_⟩
      refine ⟨_, rfl, _, rfl, _, _, rfl, rfl, (hm i hi).1, _, rfl, _, rfl, _, _, rfl, rfl, (hm i hi).2, _, _, rfl, rfl, ?_⟩
      refine ⟨sp _ _ hD1, small (by rw [VI_len]; omega), (s1.trans sp).turn hD, upd_same, ?_, _, _, rfl⟩
      rw [VI_succ]
    · rintro zs τ H1 ⟨s1, hD1, rfl, _⟩
      exact k D H1 hD s1 hD1
abbrev s_copied : Stmt := top 17
theorem sc_copied : FnScope ["table"] ["table"] (defScope s_copied) := ⟨rfl, rfl, rfl, by decide +kernel, rfl, by decide +kernel, by decide +kernel⟩
theorem ok_copied {f : Addr} {fd : FuncData} (F : Fun K "copied" "copied" s_copied f fd) (T : Txt K mg C_NoTurn C_Lines C_Turner)  : FnOk P w K mg base CX0 1 f fd ["table"] (sp_copied K) := by
  refine F.ok sc_copied (fun vs H Q E h => ?_) (fun cdv A outer s H vs Q E hr h => ?_)
  · obtain ⟨v, h, w, f, rfl, hv, hh, k⟩ := h
    rfl
  · obtain ⟨v, h, w, f, rfl, hv, hh, k⟩ := h
    refine ⟨_, (pss_one (ps_ret (pe_comp (N' := ["row"]) (cap := [none]) (by rfl) (by kernel_rfl) (kpi_list (K := K) (pv 0)) (fun _ _ _ _ => (pg_name (i := 0) ndc_7 (by rfl) (by first | exact Or.inl rfl | exact Or.inr rfl))) (fun _ _ _ _ => pts_nil) (fun _ _ _ _ => (pe_callTy (kcall_list_of (K := K)) (by rfl) T.n_list boot_listT (pa_cons (pv 0) pa_nil)))))), ?_⟩
    obtain ⟨a, us, rfl, hq, hul, hrow⟩ := dT_sq hv
    refine ⟨_, rfl, a, rfl, ⟨_, hq⟩, fun D hD => ?_⟩
    refine comp_list0 (K := K) (a := a) (xs := us) (fun i ys τ H1 => ∃ as, as.length = i ∧ ys = as.map V.ref ∧ Rows H H1 D as w f ∧ ∃ o, τ = [o])
      ⟨[], rfl, rfl, Rows.nil hD, none, rfl⟩ (fun i ys τ H1 _ ⟨as, _, _, R, _⟩ => R.same.seq hq) ?_ ?_
    · rintro i x ys τ H1 hx ⟨as, hal, rfl, R, o, rfl⟩
      obtain ⟨hi, b, rfl, hb⟩ := hrow i _ hx
      refine ⟨_, rfl, b, _, rfl, .inl (R.same.seq hb), fun L hL => ?_⟩
      have sL : Same H1 (upd H1 L (.lst (VI w (f i)))) := Same.new hL
      exact ⟨sL _ _ R.at, small (by rw [List.length_map]; omega), as ++ [L], by simp [hal], by rw [List.map_append]; rfl, R.push hL sL (by rw [hal]; exact upd_same), _, rfl⟩
    · rintro ys τ H1 ⟨as, hal, rfl, R, _⟩
      exact k D as H1 (by omega) R
abbrev s_across : Stmt := top 20
theorem sc_across : FnScope ["turn"] ["turn"] (defScope s_across) := ⟨rfl, rfl, rfl, by decide +kernel, rfl, by decide +kernel, by decide +kernel⟩
theorem ok_across {f : Addr} {fd : FuncData} (F : Fun K "across" "across" s_across f fd) (T : Txt K mg C_NoTurn C_Lines C_Turner)  : FnOk P w K mg base CX0 1 f fd ["turn"] (sp_across K) := by
  refine F.ok sc_across (fun vs H Q E h => ?_) (fun cdv A outer s H vs Q E hr h => ?_)
  · obtain ⟨u, t, rfl, hu, k⟩ := h
    rfl
  · obtain ⟨u, t, rfl, hu, k⟩ := h
    refine ⟨_, (pss_cons (ps_if (pt_cmpR op_eq (pe_ix (kix_tup (K := K)) (pv 0) pe_int (fun _ _ => rfl)) pe_str (nomark _)) (pss_one (ps_ret (pe_tup (pa_cons pe_str (pa_cons (pe_ix (kix_tup (K := K)) (pv 0) pe_int (fun _ _ => rfl)) (pa_cons (pe_ix (kix_tup (K := K)) (pv 0) pe_int (fun _ _ => rfl)) (pa_cons (pe_un un_neg (pe_ix (kix_tup (K := K)) (pv 0) pe_int (fun _ _ => rfl))) pa_nil))))))) pss_nil)
      (pss_one (ps_ret (pv 0)))), ?_⟩
    cases t with
    | ad i j n =>
      obtain ⟨ta, vs, rfl, hT, rT⟩ := hu
      obtain ⟨_, _, rfl, rfl, _, _, rfl, rfl, _, _, rfl, rfl, _, _, rfl, rfl, rfl⟩ := rT
      refine ⟨_, rfl, ta, _, _, _, rfl, rfl, hT, rfl, rfl, _, rfl, ?_⟩
      refine ifP (by decide +kernel) ?_
      refine ⟨_, rfl, ta, _, _, _, rfl, rfl, hT, rfl, _, rfl, ta, _, _, _, rfl, rfl, hT, rfl, _, rfl, ta, _, _, _, rfl, rfl, hT, rfl, _, rfl, smallE (by simp), fun T1 hT1 => ?_⟩
      exact k _ _ (Same.new hT1) ⟨T1, _, rfl, .of upd_same, ⟨_, _, rfl, rfl, _, _, rfl, rfl, _, _, rfl, rfl, _, _, rfl, rfl, rfl⟩⟩
    | mi i =>
      obtain ⟨ta, vs, rfl, hT, rT⟩ := id hu
      obtain ⟨_, _, rfl, rfl, _, _, rfl, rfl, rfl⟩ := rT
      refine ⟨_, rfl, ta, _, _, _, rfl, rfl, hT, rfl, rfl, _, rfl, ?_⟩
      refine ifN (by decide +kernel) ?_
      exact ⟨_, rfl, k _ _ (Same.refl H) hu⟩
    | sw i j =>
      obtain ⟨ta, vs, rfl, hT, rT⟩ := id hu
      obtain ⟨_, _, rfl, rfl, _, _, rfl, rfl, _, _, rfl, rfl, rfl⟩ := rT
      refine ⟨_, rfl, ta, _, _, _, rfl, rfl, hT, rfl, rfl, _, rfl, ?_⟩
      refine ifN (by decide +kernel) ?_
      exact ⟨_, rfl, k _ _ (Same.refl H) hu⟩
abbrev s_Lines__init_ : Stmt := inClass (top 21) 0
theorem sc_Lines__init_ : FnScope ["self", "rows", "backs"] ["self", "rows", "backs"] (defScope s_Lines__init_) := ⟨rfl, rfl, rfl, by decide +kernel, rfl, by decide +kernel, by decide +kernel⟩
theorem ok_Lines__init_ {f : Addr} {fd : FuncData} (F : Fun K "__init__" "Lines.__init__" s_Lines__init_ f fd) (T : Txt K mg C_NoTurn C_Lines C_Turner)  : FnOk P w K mg base CX0 1 f fd ["self", "rows", "backs"] (sp_Lines__init_ K C_Lines C_Turner) := by
  refine F.ok sc_Lines__init_ (fun vs H Q E h => ?_) (fun cdv A outer s H vs Q E hr h => ?_)
  · obtain ⟨p, dx, r, b, rfl, hp, k⟩ := h
    rfl
  · obtain ⟨p, dx, r, b, rfl, hp, k⟩ := h
    refine ⟨_, (pss_cons (kps_fld (K := K) (pv 0) (pv 1))
      (pss_one (kps_fld (K := K) (pv 0) (pv 2)))), ?_⟩
    refine ⟨_, rfl, _, rfl, p, C_Lines, dx, _, rfl, hp, T.cl_Lines, T.na_Lines_rows, by simp, ?_⟩
    refine ⟨_, rfl, _, rfl, p, C_Lines, dx, _, rfl, upd_same, T.cl_Lines, T.na_Lines_backs, by simp [putF], ?_⟩
    refine k _ (SameX.upd (SameX.upd (SameX.refl _ _))) ⟨dx, _, upd_same, (by ((repeat (first | rw [lookup_putF, if_pos rfl] | rw [lookup_putF, if_neg (by decide +kernel)])) <;> first | rfl | assumption)), (by ((repeat (first | rw [lookup_putF, if_pos rfl] | rw [lookup_putF, if_neg (by decide +kernel)])) <;> first | rfl | assumption)), (by ((repeat (first | rw [lookup_putF, if_pos rfl] | rw [lookup_putF, if_neg (by decide +kernel)])) <;> first | rfl | assumption)), ?_⟩
    have h1 := length_putF "rows" r []
    have h2 := length_putF "backs" b (putF "rows" r [])
    simp at h1
    omega
abbrev s_back_of : Stmt := top 23
theorem sc_back_of : FnScope ["turn"] ["turn"] (defScope s_back_of) := ⟨rfl, rfl, rfl, by decide +kernel, rfl, by decide +kernel, by decide +kernel⟩
theorem ok_back_of {f : Addr} {fd : FuncData} (F : Fun K "back_of" "back_of" s_back_of f fd) (T : Txt K mg C_NoTurn C_Lines C_Turner)  : FnOk P w K mg base CX0 1 f fd ["turn"] (sp_back_of K) := by
  refine F.ok sc_back_of (fun vs H Q E h => ?_) (fun cdv A outer s H vs Q E hr h => ?_)
  · obtain ⟨u, t, rfl, hu, k⟩ := h
    rfl
  · obtain ⟨u, t, rfl, hu, k⟩ := h
    refine ⟨_, (pss_cons (ps_if (pt_cmpR op_eq (pe_ix (kix_tup (K := K)) (pv 0) pe_int (fun _ _ => rfl)) pe_str (nomark _)) (pss_one (ps_ret (pe_tup (pa_cons pe_str (pa_cons (pe_ix (kix_tup (K := K)) (pv 0) pe_int (fun _ _ => rfl)) (pa_cons (pe_ix (kix_tup (K := K)) (pv 0) pe_int (fun _ _ => rfl)) (pa_cons (pe_un un_neg (pe_ix (kix_tup (K := K)) (pv 0) pe_int (fun _ _ => rfl))) pa_nil))))))) pss_nil)
      (pss_one (ps_ret (pv 0)))), ?_⟩
    cases t with
    | ad i j n =>
      obtain ⟨ta, vs, rfl, hT, rT⟩ := hu
      obtain ⟨_, _, rfl, rfl, _, _, rfl, rfl, _, _, rfl, rfl, _, _, rfl, rfl, rfl⟩ := rT
      refine ⟨_, rfl, ta, _, _, _, rfl, rfl, hT, rfl, rfl, _, rfl, ?_⟩
      refine ifP (by decide +kernel) ?_
      refine ⟨_, rfl, ta, _, _, _, rfl, rfl, hT, rfl, _, rfl, ta, _, _, _, rfl, rfl, hT, rfl, _, rfl, ta, _, _, _, rfl, rfl, hT, rfl, _, rfl, smallE (by simp), fun T1 hT1 => ?_⟩
      exact k _ _ (Same.new hT1) ⟨T1, _, rfl, .of upd_same, ⟨_, _, rfl, rfl, _, _, rfl, rfl, _, _, rfl, rfl, _, _, rfl, rfl, rfl⟩⟩
    | mi i =>
      obtain ⟨ta, vs, rfl, hT, rT⟩ := id hu
      obtain ⟨_, _, rfl, rfl, _, _, rfl, rfl, rfl⟩ := rT
      refine ⟨_, rfl, ta, _, _, _, rfl, rfl, hT, rfl, rfl, _, rfl, ?_⟩
      refine ifN (by decide +kernel) ?_
      exact ⟨_, rfl, k _ _ (Same.refl H) hu⟩
    | sw i j =>
      obtain ⟨ta, vs, rfl, hT, rT⟩ := id hu
      obtain ⟨_, _, rfl, rfl, _, _, rfl, rfl, _, _, rfl, rfl, rfl⟩ := rT
      refine ⟨_, rfl, ta, _, _, _, rfl, rfl, hT, rfl, rfl, _, rfl, ?_⟩
      refine ifN (by decide +kernel) ?_
      exact ⟨_, rfl, k _ _ (Same.refl H) hu⟩
abbrev s_Turner_many : Stmt := inClass (top 27) 6
theorem sc_Turner_many : FnScope ["self"] ["self"] (defScope s_Turner_many) := ⟨rfl, rfl, rfl, by decide +kernel, rfl, by decide +kernel, by decide +kernel⟩
theorem ok_Turner_many {f : Addr} {fd : FuncData} (F : Fun K "many" "Turner.many" s_Turner_many f fd) (T : Txt K mg C_NoTurn C_Lines C_Turner)  : FnOk P w K mg base CX0 1 f fd ["self"] (spW_many K C_Lines C_Turner) := by
  refine F.ok sc_Turner_many (fun vs H Q E h => ?_) (fun cdv A outer s H vs Q E hr h => ?_)
  · obtain ⟨p, L, R, dn, Z, h, w, B, S, ds, rfl, x, k⟩ := h
    rfl
  · obtain ⟨p, L, R, dn, Z, h, w, B, S, ds, rfl, x, k⟩ := h
    refine ⟨_, (pss_one (ps_ret (pe_callB (kcall_len_seq (K := K)) (by rfl) T.n_len PySem.boot_len (pa_cons (kpe_fld (K := K) (pv 0)) pa_nil)))), ?_⟩
    obtain ⟨tb, ⟨dx, fs, hp, l1, l2, l3, l4, l5, lm, l6⟩, hrep⟩ := x.ob
    obtain ⟨us, hdn, hrs⟩ := x.dl
    have usl : us.length = ds.length := by have := hrs.length; simpa using this
    refine ⟨_, rfl, p, C_Turner, dx, fs, _, rfl, hp, T.cl_Turner, T.na_Turner_done, l5, dn, us, rfl, .inl (.of hdn), ?_⟩
    rw [usl]
    exact k
abbrev s_L_whole : Stmt := top 29
theorem sc_L_whole : FnScope ["_law_found"] ["_law_found"] (defScope s_L_whole) := ⟨rfl, rfl, rfl, by decide +kernel, rfl, by decide +kernel, by decide +kernel⟩
theorem ok_L_whole {f : Addr} {fd : FuncData} (F : Fun K "_law_whole" "_law_whole" s_L_whole f fd) (T : Txt K mg C_NoTurn C_Lines C_Turner)  : FnOk P w K mg base CX0 1 f fd ["_law_found"] (sp_L_whole K) := by
  refine F.ok sc_L_whole (fun vs H Q E h => ?_) (fun cdv A outer s H vs Q E hr h => ?_)
  · obtain ⟨x, d, rfl, hx, k⟩ := h
    rfl
  · obtain ⟨x, d, rfl, hx, k⟩ := h
    refine ⟨_, (pss_one (ps_ret (pe_and (pe_callB (kcall_isinst (K := K)) (by rfl) T.n_isinstance boot_isinstanceB (pa_cons (pv 0) (pa_cons (pe_bltn (v := .ty "int") rfl T.n_int boot_intT rfl) pa_nil))) (pe_one (pe_not (pe_callB (kcall_isinst (K := K)) (by rfl) T.n_isinstance boot_isinstanceB (pa_cons (pv 0) (pa_cons (pe_bltn (v := .ty "bool") rfl T.n_bool boot_boolT rfl) pa_nil)))))))), ?_⟩
    refine ⟨_, rfl, _, _, d, rfl, .inl rfl, hx, _, rfl, ?_⟩
    refine ite2 (fun e => ?_) (fun e => ?_)
    · refine ⟨_, rfl, _, _, d, rfl, .inr (.inl rfl), hx, _, rfl, ?_⟩
      have e2 : wholeD d = !isD "bool" d := by unfold wholeD; rw [e]; rfl
      rw [e2] at k
      exact k
    · have e2 : wholeD d = false := by unfold wholeD; simp [e]
      rw [e2] at k
      exact k
abbrev s_L_cell_at : Stmt := top 30
theorem sc_L_cell_at : FnScope ["_law_script", "_law_k"] ["_law_script", "_law_k"] (defScope s_L_cell_at) := ⟨rfl, rfl, rfl, by decide +kernel, rfl, by decide +kernel, by decide +kernel⟩
theorem ok_L_cell_at {f : Addr} {fd : FuncData} (F : Fun K "_law_cell_at" "_law_cell_at" s_L_cell_at f fd) (T : Txt K mg C_NoTurn C_Lines C_Turner)  : FnOk P w K mg base CX0 1 f fd ["_law_script", "_law_k"] (sp_L_cell_at K) := by
  refine F.ok sc_L_cell_at (fun vs H Q E h => ?_) (fun cdv A outer s H vs Q E hr h => ?_)
  · obtain ⟨a, ns, k, rfl, hS, h0, hl, kq⟩ := h
    rfl
  · obtain ⟨a, ns, k, rfl, hS, h0, hl, kq⟩ := h
    refine ⟨_, (pss_cons (ps_if (pt_cmpR op_lt (pv 1) (pe_callB (kcall_len_seq (K := K)) (by rfl) T.n_len PySem.boot_len (pa_cons (pv 0) pa_nil)) (nomark _)) (pss_one (ps_ret (pe_ix (kix_list (K := K)) (pv 0) (pv 1) (fun _ _ => rfl)))) pss_nil)
      (pss_one (ps_ret pe_int))), ?_⟩
    refine ⟨_, rfl, _, rfl, a, _, rfl, .inl hS, _, _, rfl, rfl, _, rfl, ?_⟩
    refine ite2 (fun h1 => ?_) (fun h1 => ?_)
    · have h2 : k < (ns.length : Int) := by simpa using h1
      have e : atI (ns.map V.int) k = some (.int (cellAt ns k)) := by
        obtain ⟨j, rfl⟩ := Int.eq_ofNat_of_zero_le h0
        refine atI_nat ?_
        have hj : j < ns.length := by omega
        rw [List.getElem?_map, List.getElem?_eq_getElem hj]
        simp [cellAt, hj]
      exact ⟨_, rfl, _, rfl, a, _, k, _, rfl, rfl, hS, e, kq⟩
    · have h2 : ¬ k < (ns.length : Int) := by simpa using h1
      have e : cellAt ns k = 0 := by
        unfold cellAt
        have : ns.length ≤ k.toNat := by omega
        simp [this]
      rw [e] at kq
      exact kq
abbrev s_L_spread : Stmt := top 31
theorem sc_L_spread : FnScope ["_law_script", "_law_k"] ["_law_script", "_law_k"] (defScope s_L_spread) := ⟨rfl, rfl, rfl, by decide +kernel, rfl, by decide +kernel, by decide +kernel⟩
theorem ok_L_spread {f : Addr} {fd : FuncData} (F : Fun K "_law_spread" "_law_spread" s_L_spread f fd) (T : Txt K mg C_NoTurn C_Lines C_Turner)  : FnOk P w K mg base CX0 1 f fd ["_law_script", "_law_k"] (sp_L_spread K) := by
  refine F.ok sc_L_spread (fun vs H Q E h => ?_) (fun cdv A outer s H vs Q E hr h => ?_)
  · obtain ⟨a, ns, k, rfl, hS, h0, h1, hl, kq⟩ := h
    rfl
  · obtain ⟨a, ns, k, rfl, hS, h0, h1, hl, kq⟩ := h
    refine ⟨_, (pss_cons (ps_if (pt_cmpR op_lt (pv 1) (pe_callB (kcall_len_seq (K := K)) (by rfl) T.n_len PySem.boot_len (pa_cons (pv 0) pa_nil)) (nomark _)) (pss_one (ps_ret (pe_ix (kix_list (K := K)) (pv 0) (pv 1) (fun _ _ => rfl)))) pss_nil)
      (pss_cons (ps_if (pt_cmpR op_eq (pe_callB (kcall_len_seq (K := K)) (by rfl) T.n_len PySem.boot_len (pa_cons (pv 0) pa_nil)) pe_int (nomark _)) (pss_one (ps_ret (pe_op op_add (pe_op op_mulX (pv 1) (pv 1)) (pe_op op_mulX pe_int (pv 1))))) pss_nil)
      (pss_one (ps_ret (pe_op op_add (pe_op op_mulX (pe_ix (kix_list (K := K)) (pv 0) (pe_op op_mod (pv 1) (pe_callB (kcall_len_seq (K := K)) (by rfl) T.n_len PySem.boot_len (pa_cons (pv 0) pa_nil))) (fun _ _ => rfl)) (pe_op op_add pe_int (pe_op op_mulX (pv 1) (pv 1)))) (pv 1)))))), ?_⟩
    have lenS : ((ns.map V.int).length : Int) = (ns.length : Int) := by rw [List.length_map]
    refine ⟨_, rfl, _, rfl, a, _, rfl, .inl hS, _, _, rfl, rfl, _, rfl, ?_⟩
    refine ite2 (fun c1 => ?_) (fun c1 => ?_)
    · have c2 : k < (ns.length : Int) := by simpa using c1
      have e : atI (ns.map V.int) k = some (.int (ns.getD k.toNat 0)) := by
        obtain ⟨j, rfl⟩ := Int.eq_ofNat_of_zero_le h0
        refine atI_nat ?_
        have hj : j < ns.length := by omega
        rw [List.getElem?_map, List.getElem?_eq_getElem hj]
        simp [hj]
      have es : spreadV ns k = ns.getD k.toNat 0 := by unfold spreadV; rw [if_pos c2]
      rw [es] at kq
      exact ⟨_, rfl, _, rfl, a, _, k, _, rfl, rfl, hS, e, kq⟩
    have c2 : ¬ k < (ns.length : Int) := by simpa using c1
    refine ⟨_, rfl, a, _, rfl, .inl hS, rfl, _, rfl, ?_⟩
    refine ite2 (fun c3 => ?_) (fun c3 => ?_)
    · have c4 : ns.length = 0 := by simpa using c3
      have es : spreadV ns k = k * k + 3 * k := by unfold spreadV; rw [if_neg c2, if_pos c4]
      rw [es] at kq
      exact ⟨_, rfl, _, rfl, _, _, rfl, rfl, mulokL (by omega) (by omega), _, rfl, _, _, rfl, rfl, mulokL (by decide) (by decide), _, _, rfl, rfl, kq⟩
    have c4 : ¬ ns.length = 0 := by simpa using c3
    have hp : (0 : Int) < (ns.length : Int) := by omega
    have m0 : 0 ≤ k % (ns.length : Int) := Int.emod_nonneg _ (by omega)
    have m1 : k % (ns.length : Int) < (ns.length : Int) := Int.emod_lt_of_pos _ hp
    have e : atI (ns.map V.int) (k % (ns.length : Int)) = some (.int (ns.getD (k % (ns.length : Int)).toNat 0)) := by
      obtain ⟨j, hj⟩ := Int.eq_ofNat_of_zero_le m0
      rw [hj] at m1 ⊢
      refine atI_nat ?_
      have hj : j < ns.length := by omega
      rw [List.getElem?_map, List.getElem?_eq_getElem hj]
      simp [hj]
    have es : spreadV ns k = ns.getD (k % (ns.length : Int)).toNat 0 * (48271 + k * k) + k := by unfold spreadV; rw [if_neg c2, if_neg c4]
    rw [es] at kq
    have h5 : k * k ≤ 100000 * 100000 := Int.mul_le_mul h1 h1 h0 (by decide)
    have h6 : 0 ≤ k * k := Int.mul_nonneg h0 h0
    refine ⟨_, rfl, _, rfl, _, rfl, a, _, rfl, .inl hS, _, _, rfl, rfl, ?_, ?_⟩
    · rw [lenS]; exact hp
    rw [lenS]
    exact ⟨a, _, _, _, rfl, rfl, hS, e, _, rfl, _, rfl, _, _, rfl, rfl, mulokL (by omega) (by omega), _, _, rfl, rfl, _, _, rfl, rfl, mulokR (by omega) (by omega), _, rfl, _, _, rfl, rfl, kq⟩
abbrev s_L_number_by : Stmt := top 32
theorem sc_L_number_by : FnScope ["_law_cell", "_law_kind"] ["_law_cell", "_law_kind"] (defScope s_L_number_by) := ⟨rfl, rfl, rfl, by decide +kernel, rfl, by decide +kernel, by decide +kernel⟩
theorem ok_L_number_by {f : Addr} {fd : FuncData} (F : Fun K "_law_number_by" "_law_number_by" s_L_number_by f fd) (T : Txt K mg C_NoTurn C_Lines C_Turner)  : FnOk P w K mg base CX0 1 f fd ["_law_cell", "_law_kind"] (sp_L_number_by K) := by
  refine F.ok sc_L_number_by (fun vs H Q E h => ?_) (fun cdv A outer s H vs Q E hr h => ?_)
  · obtain ⟨c, kind, rfl, hc, kq⟩ := h
    rfl
  · obtain ⟨c, kind, rfl, hc, kq⟩ := h
    refine ⟨_, (pss_cons (ps_if (pt_cmpR op_eq (pe_op op_mod (pv 1) pe_int) pe_int (nomark _)) (pss_one (ps_ret (pe_op op_sub (pe_op op_mod (pe_op op_add (pe_op op_mulX (pv 0) (pe_op op_pow pe_int pe_int)) (pv 0)) (pe_op op_add (pe_op op_mulX pe_int (pe_op op_pow pe_int pe_int)) pe_int)) (pe_op op_pow pe_int pe_int)))) pss_nil)
      (pss_cons (ps_if (pt_cmpR op_eq (pe_op op_mod (pv 1) pe_int) pe_int (nomark _)) (pss_one (ps_ret (pe_op op_sub (pe_op op_mod (pe_op op_mulX (pv 0) pe_int) pe_int) pe_int))) pss_nil)
      (pss_cons (ps_if (pt_cmpR op_eq (pe_op op_mod (pv 1) pe_int) pe_int (nomark _)) (pss_one (ps_ret (pe_op op_sub (pe_op op_mod (pv 0) pe_int) pe_int))) pss_nil)
      (pss_one (ps_ret (pe_op op_mulX (pe_op op_sub (pe_op op_mod (pv 0) pe_int) pe_int) (pe_op op_mod (pe_op op_fdiv (pv 0) pe_int) pe_int))))))), ?_⟩
    have p4 : (0 : Int) < 4 := by decide
    refine ⟨_, rfl, _, _, rfl, rfl, p4, rfl, _, rfl, ?_⟩
    refine ite2 (fun c1 => ?_) (fun c1 => ?_)
    · have c2 : kind % 4 = 3 := by simpa using c1
      have es : numV c kind = (c * (1000003 : Int) ^ (9 : Int).toNat + c) % (2 * (10 : Int) ^ (59 : Int).toNat + 1) - (10 : Int) ^ (59 : Int).toNat := by unfold numV; rw [if_pos c2]
      rw [es] at kq
      exact ⟨_, rfl, _, _, rfl, rfl, ⟨by decide, by decide, by decide⟩, _, _, rfl, rfl, mulok (m := cellBits + 65) (n := 200) hc (by decide +kernel) (by decide), _, rfl, _, _, rfl, rfl, _, _, rfl, rfl, ⟨by decide, by decide, by decide⟩, _, _, rfl, rfl, mulokL (by decide) (by decide), _, _, rfl, rfl, _, _, rfl, rfl, (by show (0 : Int) < 2 * (10 : Int) ^ (59 : Int).toNat + 1; decide +kernel), _, _, rfl, rfl, ⟨by decide, by decide, by decide⟩, _, _, rfl, rfl, kq⟩
    have c2 : ¬ kind % 4 = 3 := by simpa using c1
    refine ⟨_, rfl, _, _, rfl, rfl, p4, rfl, _, rfl, ?_⟩
    refine ite2 (fun c3 => ?_) (fun c3 => ?_)
    · have c4 : kind % 4 = 2 := by simpa using c3
      have es : numV c kind = c * 48271 % 2000003 - 1000001 := by unfold numV; rw [if_neg c2, if_pos c4]
      rw [es] at kq
      exact ⟨_, rfl, _, _, rfl, rfl, mulokR (by decide) (by decide), _, _, rfl, rfl, (by show (0 : Int) < 2000003; decide), _, _, rfl, rfl, kq⟩
    have c4 : ¬ kind % 4 = 2 := by simpa using c3
    refine ⟨_, rfl, _, _, rfl, rfl, p4, rfl, _, rfl, ?_⟩
    refine ite2 (fun c5 => ?_) (fun c5 => ?_)
    · have c6 : kind % 4 = 1 := by simpa using c5
      have es : numV c kind = c % 7 - 3 := by unfold numV; rw [if_neg c2, if_neg c4, if_pos c6]
      rw [es] at kq
      exact ⟨_, rfl, _, _, rfl, rfl, (by show (0 : Int) < 7; decide), _, _, rfl, rfl, kq⟩
    have c6 : ¬ kind % 4 = 1 := by simpa using c5
    have es : numV c kind = (c % 9 - 4) * (c / 9 % 2) := by unfold numV; rw [if_neg c2, if_neg c4, if_neg c6]
    rw [es] at kq
    exact ⟨_, rfl, _, _, rfl, rfl, (by show (0 : Int) < 9; decide), _, _, rfl, rfl, _, rfl, _, _, rfl, rfl, ⟨by decide, by decide⟩, _, _, rfl, rfl, (by show (0 : Int) < 2; decide), _, _, rfl, rfl, mulokL (by omega) (by omega), kq⟩
abbrev s_L_copy : Stmt := top 35
theorem sc_L_copy : FnScope ["_law_table"] ["_law_table"] (defScope s_L_copy) := ⟨rfl, rfl, rfl, by decide +kernel, rfl, by decide +kernel, by decide +kernel⟩
theorem ok_L_copy {f : Addr} {fd : FuncData} (F : Fun K "_law_copy" "_law_copy" s_L_copy f fd) (T : Txt K mg C_NoTurn C_Lines C_Turner)  : FnOk P w K mg base CX0 1 f fd ["_law_table"] (spW_copy K) := by
  refine F.ok sc_L_copy (fun vs H Q E h => ?_) (fun cdv A outer s H vs Q E hr h => ?_)
  · obtain ⟨v, rows, rfl, hv, hh, k⟩ := h
    rfl
  · obtain ⟨v, rows, rfl, hv, hh, k⟩ := h
    refine ⟨_, (pss_one (ps_ret (pe_comp (N' := ["_law_row"]) (cap := [none]) (by rfl) (by kernel_rfl) (kpi_list (K := K) (pv 0)) (fun _ _ _ _ => (pg_name (i := 0) ndc_8 (by rfl) (by first | exact Or.inl rfl | exact Or.inr rfl))) (fun _ _ _ _ => pts_nil) (fun _ _ _ _ => (pe_callTy (kcall_list_of (K := K)) (by rfl) T.n_list boot_listT (pa_cons (pv 0) pa_nil)))))), ?_⟩
    obtain ⟨a, us, rfl, hq, hul, hrow⟩ := dR_sq hv
    refine ⟨_, rfl, a, rfl, ⟨_, hq⟩, fun D hD => ?_⟩
    refine comp_list0 (K := K) (a := a) (xs := us) (fun i ys τ H1 => ∃ as, Same H H1 ∧ ys = as.map V.ref ∧ TabAt H1 D as (rows.take i) ∧ (∀ a ∈ as, H a = none ∧ a ≠ D) ∧ ∃ o, τ = [o])
      ⟨[], Same.new hD, rfl, ⟨upd_same, rfl, fun j a r e => by simp at e⟩, fun a ha => by simp at ha, none, rfl⟩ (fun i ys τ H1 _ ⟨as, s1, _⟩ => s1.seq hq) ?_ ?_
    · rintro i x ys τ H1 hx ⟨as, s1, rfl, R, nw, o, rfl⟩
      obtain ⟨q, b, hqi, rfl, hb⟩ := hrow i _ hx
      refine ⟨_, rfl, b, _, rfl, .inl (s1.seq hb), fun L hL => ?_⟩
      have sL : Same H1 (upd H1 L (.lst (q.map V.int))) := Same.new hL
      have eL : upd H1 L (.lst (q.map V.int)) L = some (.lst (q.map V.int)) := upd_same
      have hLD : L ≠ D := fun z => by rw [z, R.at] at hL; cases hL
      have hal : as.length ≤ 1000 := by rw [R.len, List.length_take]; omega
      refine ⟨sL _ _ R.at, small (by rw [List.length_map]; omega), as ++ [L], (s1.trans sL).turn hD, by rw [List.map_append]; rfl, ?_, ?_, _, rfl⟩
      · rw [List.take_succ, hqi]
        exact (R.same sL).push eL hLD fun a ha => (nw a ha).2
      · intro c hc
        rcases List.mem_append.mp hc with hc | hc
        · exact nw c hc
        · have : c = L := by simpa using hc
          subst this
          exact ⟨s1.free hL, hLD⟩
    · rintro ys τ H1 ⟨as, s1, rfl, R, nw, _⟩
      rw [hul, List.take_length] at R
      exact k D as H1 s1 hD R nw
abbrev s_L_product_by : Stmt := top 36
theorem sc_L_product_by : FnScope ["_law_one", "_law_other", "_law_width", "_law_rows", "_law_row", "_law_made", "_law_j", "_law_total", "_law_k"] ["_law_one", "_law_other", "_law_width"] (defScope s_L_product_by) := ⟨rfl, rfl, rfl, by decide +kernel, rfl, by decide +kernel, by decide +kernel⟩
theorem nd_L_product_by : (["_law_one", "_law_other", "_law_width", "_law_rows", "_law_row", "_law_made", "_law_j", "_law_total", "_law_k"] : List Str).Nodup := by decide +kernel

theorem ok_L_product_by {f : Addr} {fd : FuncData} (F : Fun K "_law_product_by" "_law_product_by" s_L_product_by f fd) (T : Txt K mg C_NoTurn C_Lines C_Turner)  : FnOk P w K mg base CX0 1 f fd ["_law_one", "_law_other", "_law_width"] (sp_L_product_by K) := by
  refine F.ok sc_L_product_by (fun vs H Q E h => ?_) (fun cdv A outer s H vs Q E hr h => ?_)
  · obtain ⟨u, v, h, d, w, f, g, rfl, hu, hv, hh, hd, hw, hm, k⟩ := h
    rfl
  · obtain ⟨u, v, h, d, w, f, g, rfl, hu, hv, hh, hd, hw, hm, k⟩ := h
    refine ⟨_, (pss_cons (ps_set (i := 3) nd_L_product_by (by rfl) (by first | exact Or.inl rfl | exact Or.inr rfl) (pe_lst pa_nil))
      (pss_cons (ps_for PassesOwn.never rfl (kpi_list (K := K) (pv 0)) (pg_name (i := 4) nd_L_product_by (by rfl) (by first | exact Or.inl rfl | exact Or.inr rfl)) (pss_cons (ps_set (i := 5) nd_L_product_by (by rfl) (by first | exact Or.inl rfl | exact Or.inr rfl) (pe_lst pa_nil))
      (pss_cons (ps_for PassesOwn.never rfl (pi_range1 (by rfl) T.n_range (pa_cons (pv 2) pa_nil)) (pg_name (i := 6) nd_L_product_by (by rfl) (by first | exact Or.inl rfl | exact Or.inr rfl)) (pss_cons (ps_set (i := 7) nd_L_product_by (by rfl) (by first | exact Or.inl rfl | exact Or.inr rfl) pe_int)
      (pss_cons (ps_for PassesOwn.never rfl (pi_range1 (by rfl) T.n_range (pa_cons (pe_callB (kcall_len_seq (K := K)) (by rfl) T.n_len PySem.boot_len (pa_cons (pv 1) pa_nil)) pa_nil)) (pg_name (i := 8) nd_L_product_by (by rfl) (by first | exact Or.inl rfl | exact Or.inr rfl)) (pss_one (ps_set (i := 7) nd_L_product_by (by rfl) (by first | exact Or.inl rfl | exact Or.inr rfl) (pe_op op_add (pv 7) (pe_op op_mulX (pe_ix (kix_list (K := K)) (pv 4) (pv 8) (fun _ _ => rfl)) (pe_ix (kix_list (K := K)) (pe_ix (kix_list (K := K)) (pv 1) (pv 8) (fun _ _ => rfl)) (pv 6) (fun _ _ => rfl)))))))
      (pss_one (ps_expr (kpe_bm (K := K) PySem.F.plainAttrs_list PySem.F.slot_list_append PySem.F.type_list_append mt_append (pv 5) (pa_cons (pv 7) pa_nil)))))))
      (pss_one (ps_expr (kpe_bm (K := K) PySem.F.plainAttrs_list PySem.F.slot_list_append PySem.F.type_list_append mt_append (pv 3) (pa_cons (pv 5) pa_nil)))))))
      (pss_one (ps_ret (pv 3))))), ?_⟩
    obtain ⟨a, us, rfl, hq, hul, hrow⟩ := dT_sq hu
    obtain ⟨b, vs, rfl, hqb, hvl, hrowb⟩ := dT_sq hv
    refine ⟨Nat.zero_le _, fun D hD => ?_⟩
    refine ⟨_, rfl, a, rfl, ⟨_, (Same.new hD).seq hq⟩, ?_⟩
    refine for_list (K := K) (a := a) (xs := us) (fun i σ H1 => ∃ (as : List Addr) (o1 o2 o3 o4 o5 : Option V), σ = [some (.ref a), some (.ref b), some (.int w), some (.ref D), o1, o2, o3, o4, o5] ∧ as.length = i ∧ Rows H H1 D as w (fun i j => sumN (fun k => f i k * g k j) d))
      ⟨[], none, none, none, none, none, rfl, rfl, Rows.nil hD⟩ (fun i σ H1 _ ⟨_, _, _, _, _, _, _, _, R⟩ => R.same.seq hq) ?_ ?_
    · rintro i x σ H1 hx ⟨as, o1, o2, o3, o4, o5, rfl, hal, R⟩
      obtain ⟨hi, r, rfl, hr⟩ := hrow i _ hx
      refine ⟨Nat.zero_le _, fun E hE => ?_⟩
      refine ⟨_, rfl, _, rfl, by omega, by omega, ?_⟩
      refine for_range (lo := 0) (n := (w : Int).toNat) (fun j σ H2 => ∃ (o3 o4 o5 : Option V), σ = [some (.ref a), some (.ref b), some (.int w), some (.ref D), some (.ref r), some (.ref E), o3, o4, o5] ∧ Same H1 H2 ∧ H2 E = some (.lst (VI j fun j => sumN (fun k => f i k * g k j) d)))
        ⟨_, _, _, rfl, Same.new hE, upd_same⟩ ?_ ?_
      · rintro j σ H2 hj ⟨o3', o4', o5', rfl, s2, hE2⟩
        have hj2 : j < w := by omega
        have sH := R.same.trans s2
        refine ⟨_, rfl, b, _, rfl, .inl (sH.seq hqb), _, rfl, by omega, by omega, ?_⟩
        rw [hvl]
        refine for_range (lo := 0) (n := (d : Int).toNat) (fun m σ H3 => ∃ (o5 : Option V), σ = [some (.ref a), some (.ref b), some (.int w), some (.ref D), some (.ref r), some (.ref E), some (.int (0 + j)), some (.int (sumN (fun k => f i k * g k j) m)), o5] ∧ H2 = H3)
          ⟨_, rfl, rfl⟩ ?_ ?_
        · rintro m σ H3 hmd ⟨o5'', rfl, rfl⟩
          have hm2 : m < d := by omega
          obtain ⟨c, hc1, hc2⟩ : ∃ c, vs[m]? = some (.ref c) ∧ SqL K H c (VI w (g m)) := by
            obtain ⟨_, c, e1, e2⟩ := hrowb m vs[m] (by rw [List.getElem?_eq_getElem (by omega)])
            exact ⟨c, by rw [List.getElem?_eq_getElem (by omega), e1], e2⟩
          refine ⟨_, rfl, _, rfl, _, rfl, r, _, _, _, rfl, rfl, sH.seq hr, VI_at0 hm2, _, rfl, _, rfl, b, vs, _, _, rfl, rfl, sH.seq hqb, (by rw [Int.zero_add]; exact atI_nat hc1), _, rfl, c, _, _, _, rfl, rfl, sH.seq hc2, VI_at0 hj2, _, _, rfl, rfl, hm i m j hi hm2 hj2, _, _, rfl, rfl, ?_⟩
          exact ⟨_, rfl, rfl⟩
        · rintro σ H3 ⟨o5'', rfl, rfl⟩
          rw [Int.toNat_natCast]
          refine ⟨_, rfl, .inl ⟨rfl, _, .of hE2⟩, _, rfl, E, _, _, rfl, rfl, hE2, small (by rw [VI_len]; omega), ?_⟩
          refine ⟨_, _, _, rfl, s2.turn hE, ?_⟩
          rw [upd_same, VI_succ]
      · rintro σ H2 ⟨o3', o4', o5', rfl, s2, hE2⟩
        rw [Int.toNat_natCast] at hE2
        have hD2 : H2 D = some (.lst (as.map V.ref)) := s2 _ _ R.at
        refine ⟨_, rfl, .inl ⟨rfl, _, .of hD2⟩, _, rfl, D, _, _, rfl, rfl, hD2, small (by rw [List.length_map]; omega), ?_⟩
        exact ⟨as ++ [E], _, _, _, _, _, rfl, by simp [hal], R.push hE s2 (by rw [hal]; exact hE2)⟩
    · rintro σ H1 ⟨as, o1, o2, o3, o4, o5, rfl, hal, R⟩
      exact ⟨_, rfl, k D as H1 (by omega) R⟩
abbrev s_L_one_by : Stmt := top 37
theorem sc_L_one_by : FnScope ["_law_size", "_law_rows", "_law_i"] ["_law_size"] (defScope s_L_one_by) := ⟨rfl, rfl, rfl, by decide +kernel, rfl, by decide +kernel, by decide +kernel⟩
theorem nd_L_one_by : (["_law_size", "_law_rows", "_law_i"] : List Str).Nodup := by decide +kernel

theorem ok_L_one_by {f : Addr} {fd : FuncData} (F : Fun K "_law_one_by" "_law_one_by" s_L_one_by f fd) (T : Txt K mg C_NoTurn C_Lines C_Turner)  : FnOk P w K mg base CX0 1 f fd ["_law_size"] (sp_L_one_by K) := by
  refine F.ok sc_L_one_by (fun vs H Q E h => ?_) (fun cdv A outer s H vs Q E hr h => ?_)
  · obtain ⟨n, rfl, hn, k⟩ := h
    rfl
  · obtain ⟨n, rfl, hn, k⟩ := h
    refine ⟨_, (pss_cons (ps_set (i := 1) nd_L_one_by (by rfl) (by first | exact Or.inl rfl | exact Or.inr rfl) (pe_lst pa_nil))
      (pss_cons (ps_for PassesOwn.never rfl (pi_range1 (by rfl) T.n_range (pa_cons (pv 0) pa_nil)) (pg_name (i := 2) nd_L_one_by (by rfl) (by first | exact Or.inl rfl | exact Or.inr rfl)) (pss_one (ps_expr (kpe_bm (K := K) PySem.F.plainAttrs_list PySem.F.slot_list_append PySem.F.type_list_append mt_append (pv 1) (pa_cons (pe_op (kop_catLW (K := K)) (pe_op (kop_catLW (K := K)) (pe_op op_rep (pe_lst (pa_cons pe_int pa_nil)) (pv 2)) (pe_lst (pa_cons pe_int pa_nil))) (pe_op op_rep (pe_lst (pa_cons pe_int pa_nil)) (pe_op op_sub (pe_op op_sub (pv 0) (pv 2)) pe_int))) pa_nil)))))
      (pss_one (ps_ret (pv 1))))), ?_⟩
    refine ⟨Nat.zero_le _, fun D hD => ?_⟩
    refine ⟨_, rfl, _, rfl, by omega, by omega, ?_⟩
    refine for_range (lo := 0) (n := (n : Int).toNat) (fun i σ H1 => ∃ (as : List Addr) (o1 : Option V), σ = [some (.int n), some (.ref D), o1] ∧ as.length = i ∧ Rows H H1 D as n (fun i j => if j = i then 1 else 0))
      ⟨[], none, rfl, rfl, Rows.nil hD⟩ ?_ ?_
    · rintro i σ H1 hi ⟨as, o1, rfl, hal, R⟩
      have hi2 : i < n := by omega
      have e0 : ((0 : Int) + (i : Int)).toNat = i := by omega
      have e9 : ((n : Int) - (0 + (i : Int)) - 1).toNat = n - i - 1 := by omega
      refine ⟨_, rfl, .inl ⟨rfl, _, .of R.at⟩, smallE (by simp), fun l1 hl1 => ?_⟩
      have t1 : Same H1 (upd H1 l1 (.lst [.int 0])) := Same.new hl1
      refine ⟨_, rfl, l1, _, _, rfl, rfl, upd_same, by omega, by omega, smallE (by simp; omega), fun l2 hl2 => ?_⟩
      rw [e0]
      have t2 := t1.trans (Same.new (o := .lst (List.replicate i [V.int 0]).flatten) hl2)
      refine ⟨smallE (by simp), fun l3 hl3 => ?_⟩
      have u3 := Same.new (o := .lst [V.int 1]) hl3
      have t3 := t2.trans u3
      refine ⟨l2, l3, _, _, rfl, rfl, .of (u3 _ _ upd_same), .of upd_same, smallE (by simp; omega), fun l4 hl4 => ?_⟩
      have u4 := Same.new (o := .lst ((List.replicate i [V.int 0]).flatten ++ [V.int 1])) hl4
      have t4 := t3.trans u4
      refine ⟨smallE (by simp), fun l5 hl5 => ?_⟩
      have u5 := Same.new (o := .lst [V.int 0]) hl5
      have t5 := t4.trans u5
      refine ⟨_, rfl, _, rfl, _, _, rfl, rfl, _, _, rfl, rfl, l5, _, _, rfl, rfl, upd_same, by omega, by omega, smallE (by simp; omega), fun l6 hl6 => ?_⟩
      rw [e9]
      have u6 := Same.new (o := .lst (List.replicate (n - i - 1) [V.int 0]).flatten) hl6
      have t6 := t5.trans u6
      refine ⟨l4, l6, _, _, rfl, rfl, .of ((u5.trans u6) _ _ upd_same), .of upd_same, smallE (by simp; omega), fun l7 hl7 => ?_⟩
      have u7 := Same.new (o := .lst ((List.replicate i [V.int 0]).flatten ++ [V.int 1] ++ (List.replicate (n - i - 1) [V.int 0]).flatten)) hl7
      have t7 := t6.trans u7
      refine ⟨D, _, _, rfl, rfl, t7 _ _ R.at, small (by rw [List.length_map]; omega), ?_⟩
      refine ⟨as ++ [l7], _, rfl, by simp [hal], R.push (t6.free hl7) t7 ?_⟩
      rw [upd_same, delta_row n i hi2, hal]
    · rintro σ H1 ⟨as, o1, rfl, hal, R⟩
      exact ⟨_, rfl, k D as H1 (by omega) R⟩
abbrev s_L_turn_by : Stmt := top 38
theorem sc_L_turn_by : FnScope ["_law_cell", "_law_lines", "_law_number", "_law_at", "_law_other"] ["_law_cell", "_law_lines", "_law_number"] (defScope s_L_turn_by) := ⟨rfl, rfl, rfl, by decide +kernel, rfl, by decide +kernel, by decide +kernel⟩
theorem nd_L_turn_by : (["_law_cell", "_law_lines", "_law_number", "_law_at", "_law_other"] : List Str).Nodup := by decide +kernel

theorem ok_L_turn_by {f : Addr} {fd : FuncData} (F : Fun K "_law_turn_by" "_law_turn_by" s_L_turn_by f fd) (T : Txt K mg C_NoTurn C_Lines C_Turner)  : FnOk P w K mg base CX0 1 f fd ["_law_cell", "_law_lines", "_law_number"] (sp_L_turn_by K) := by
  refine F.ok sc_L_turn_by (fun vs H Q E h => ?_) (fun cdv A outer s H vs Q E hr h => ?_)
  · obtain ⟨c, n, m, rfl, hm, k0, k1⟩ := h
    rfl
  · obtain ⟨c, n, m, rfl, hm, k0, k1⟩ := h
    refine ⟨_, (pss_cons (ps_if (pt_cmpR op_eq (pv 1) pe_int (nomark _)) (pss_one (ps_ret pe_non)) pss_nil)
      (pss_cons (ps_set (i := 3) nd_L_turn_by (by rfl) (by first | exact Or.inl rfl | exact Or.inr rfl) (pe_op op_mod (pe_op op_fdiv (pv 0) pe_int) (pv 1)))
      (pss_cons (ps_if (PW.pt (pw_or (pt_cmpR op_eq (pv 1) pe_int (nomark _)) (pw_or1 (pt_cmpR op_eq (pe_op op_mod (pv 0) pe_int) pe_int (nomark _))))) (pss_one (ps_ret (pe_tup (pa_cons pe_str (pa_cons (pv 3) pa_nil))))) pss_nil)
      (pss_cons (ps_set (i := 4) nd_L_turn_by (by rfl) (by first | exact Or.inl rfl | exact Or.inr rfl) (pe_op op_mod (pe_op op_add (pe_op op_add (pv 3) pe_int) (pe_op op_mod (pe_op op_fdiv (pe_op op_fdiv (pv 0) pe_int) (pv 1)) (pe_op op_sub (pv 1) pe_int))) (pv 1)))
      (pss_cons (ps_if (pt_cmpR op_eq (pe_op op_mod (pv 0) pe_int) pe_int (nomark _)) (pss_one (ps_ret (pe_tup (pa_cons pe_str (pa_cons (pv 3) (pa_cons (pv 4) pa_nil)))))) pss_nil)
      (pss_one (ps_ret (pe_tup (pa_cons pe_str (pa_cons (pv 3) (pa_cons (pv 4) (pa_cons (pv 2) pa_nil)))))))))))), ?_⟩
    refine ⟨_, rfl, rfl, _, rfl, ?_⟩
    refine ite2 (fun h1 => ?_) (fun h1 => ?_)
    · have e : (m : Int) = 0 := by simpa using h1
      exact k0 (by omega)
    have m0 : ¬ (m : Int) = 0 := by simpa using h1
    have mp : 0 < m := by omega
    have mpI : (0 : Int) < (m : Int) := by omega
    have kk := k1 mp
    refine ⟨_, rfl, _, _, rfl, rfl, ⟨by decide, by decide⟩, _, rfl, _, _, rfl, rfl, mpI, ?_⟩
    have a0 : 0 ≤ c / 3 % (m : Int) := Int.emod_nonneg _ (by omega)
    have a1 : c / 3 % (m : Int) < (m : Int) := Int.emod_lt_of_pos _ mpI
    obtain ⟨ai, ha⟩ := Int.eq_ofNat_of_zero_le a0
    have hai : ai < m := by omega
    have mk2 : ∀ p, H p = none → Q (.ref p) (upd H p (.tup [.str "minus", .int (c / 3 % (m : Int))])) := fun p hp => kk (.mi ai) _ _ hai (fun _ _ => trivial) (Same.new hp) ⟨p, _, rfl, .of upd_same, ⟨_, _, rfl, rfl, _, _, rfl, by rw [ha] <;> rfl, rfl⟩⟩
    refine ⟨_, rfl, rfl, _, rfl, ?_⟩
    refine ite2 (fun h2 => ?_) (fun h2 => ?_)
    · refine ifP rfl ?_
      exact ⟨_, rfl, smallE (by simp), fun p hp => mk2 p hp⟩
    have m1 : ¬ (m : Int) = 1 := by simpa using h2
    refine ⟨_, rfl, _, _, rfl, rfl, (by show (0 : Int) < 3; decide), rfl, _, rfl, ?_⟩
    refine ite2 (fun h3 => ?_) (fun h3 => ?_)
    · exact ⟨_, rfl, smallE (by simp), fun p hp => mk2 p hp⟩
    have mm : (0 : Int) < (m : Int) - 1 := by omega
    refine ⟨_, rfl, _, _, rfl, rfl, _, rfl, _, _, rfl, rfl, ⟨by decide, by decide⟩, _, rfl, _, _, rfl, rfl, ⟨mpI, by omega⟩, _, rfl, _, _, rfl, rfl, _, _, rfl, rfl, mm, _, _, rfl, rfl, _, rfl, _, _, rfl, rfl, mpI, ?_⟩
    obtain ⟨o1, o2, o3⟩ := other_line a0 a1 (Int.emod_nonneg (c / 3 / (m : Int)) (by omega : (m : Int) - 1 ≠ 0)) (Int.emod_lt_of_pos (c / 3 / (m : Int)) mm)
    obtain ⟨bi, hb⟩ := Int.eq_ofNat_of_zero_le o2
    have hbi : bi < m := by omega
    have hne : ai ≠ bi := by omega
    refine ⟨_, rfl, _, _, rfl, rfl, (by show (0 : Int) < 3; decide), rfl, _, rfl, ?_⟩
    refine ite2 (fun h4 => ?_) (fun h4 => ?_)
    · refine ⟨_, rfl, _, rfl, smallE (by simp), fun p hp => ?_⟩
      exact kk (.sw ai bi) _ _ ⟨hai, hbi, hne⟩ (fun _ _ => trivial) (Same.new hp) ⟨p, _, rfl, .of upd_same, ⟨_, _, rfl, rfl, _, _, rfl, (by show V.int (c / 3 % (m : Int)) = V.int ai; rw [ha]), _, _, rfl, (by show V.int ((c / 3 % (m : Int) + 1 + c / 3 / (m : Int) % ((m : Int) - 1)) % (m : Int)) = V.int bi; rw [hb]), rfl⟩⟩
    · refine ⟨_, rfl, _, rfl, _, rfl, smallE (by simp), fun p hp => ?_⟩
      exact kk (.ad ai bi n) _ _ ⟨hai, hbi, hne⟩ (fun B hB => hB) (Same.new hp) ⟨p, _, rfl, .of upd_same, ⟨_, _, rfl, rfl, _, _, rfl, (by show V.int (c / 3 % (m : Int)) = V.int ai; rw [ha]), _, _, rfl, (by show V.int ((c / 3 % (m : Int) + 1 + c / 3 / (m : Int) % ((m : Int) - 1)) % (m : Int)) = V.int bi; rw [hb]), _, _, rfl, rfl, rfl⟩⟩
abbrev s_L_flip : Stmt := top 39
theorem sc_L_flip : FnScope ["_law_table", "_law_width", "_law_rows", "_law_j"] ["_law_table", "_law_width"] (defScope s_L_flip) := ⟨rfl, rfl, rfl, by decide +kernel, rfl, by decide +kernel, by decide +kernel⟩
theorem nd_L_flip : (["_law_table", "_law_width", "_law_rows", "_law_j"] : List Str).Nodup := by decide +kernel

theorem ok_L_flip {f : Addr} {fd : FuncData} (F : Fun K "_law_flip" "_law_flip" s_L_flip f fd) (T : Txt K mg C_NoTurn C_Lines C_Turner)  : FnOk P w K mg base CX0 1 f fd ["_law_table", "_law_width"] (sp_L_flip K) := by
  refine F.ok sc_L_flip (fun vs H Q E h => ?_) (fun cdv A outer s H vs Q E hr h => ?_)
  · obtain ⟨v, h, w, f, rfl, hv, hh, hw, k⟩ := h
    rfl
  · obtain ⟨v, h, w, f, rfl, hv, hh, hw, k⟩ := h
    refine ⟨_, (pss_cons (ps_set (i := 2) nd_L_flip (by rfl) (by first | exact Or.inl rfl | exact Or.inr rfl) (pe_lst pa_nil))
      (pss_cons (ps_for PassesOwn.never rfl (pi_range1 (by rfl) T.n_range (pa_cons (pv 1) pa_nil)) (pg_name (i := 3) nd_L_flip (by rfl) (by first | exact Or.inl rfl | exact Or.inr rfl)) (pss_one (ps_expr (kpe_bm (K := K) PySem.F.plainAttrs_list PySem.F.slot_list_append PySem.F.type_list_append mt_append (pv 2) (pa_cons (pe_comp (N' := ["_law_row", "_law_j"]) (cap := [none, some 3]) (by rfl) (by kernel_rfl) (kpi_list (K := K) (pv 0)) (fun _ _ _ _ => (pg_name (i := 0) ndc_9 (by rfl) (by first | exact Or.inl rfl | exact Or.inr rfl))) (fun _ _ _ _ => pts_nil) (fun _ _ _ _ => (pe_ix (kix_list (K := K)) (pv 0) (pv 1) (fun _ _ => rfl)))) pa_nil)))))
      (pss_one (ps_ret (pv 2))))), ?_⟩
    obtain ⟨a, us, rfl, hq, hul, hrow⟩ := dT_sq hv
    refine ⟨Nat.zero_le _, fun D hD => ?_⟩
    refine ⟨_, rfl, _, rfl, by omega, by omega, ?_⟩
    refine for_range (lo := 0) (n := (w : Int).toNat) (fun i σ H1 => ∃ (as : List Addr) (o : Option V), σ = [some (.ref a), some (.int w), some (.ref D), o] ∧ as.length = i ∧ Rows H H1 D as h (fun i j => f j i))
      ⟨[], none, rfl, rfl, Rows.nil hD⟩ ?_ ?_
    · rintro j σ H1 hj ⟨as, o, rfl, hal, R⟩
      have hj2 : j < w := by omega
      refine ⟨_, rfl, .inl ⟨rfl, _, .of R.at⟩, _, rfl, a, rfl, ⟨_, R.same.seq hq⟩, fun E hE => ?_⟩
      refine comp_list0 (K := K) (a := a) (xs := us) (fun i ys τ H2 => Same H1 H2 ∧ H2 E = some (.lst ys) ∧ ys = VI i (fun i => f i j) ∧ ∃ o, τ = [o, some (.int (0 + j))])
        ⟨Same.new hE, upd_same, rfl, none, rfl⟩ (fun i ys τ H2 _ ⟨s2, _⟩ => (R.same.trans s2).seq hq) ?_ ?_
      · rintro i x ys τ H2 hx ⟨s2, hE2, rfl, o', rfl⟩
        obtain ⟨hi, b, rfl, hb⟩ := hrow i _ hx
        refine ⟨_, rfl, _, rfl, b, _, _, _, rfl, rfl, (R.same.trans s2).seq hb, VI_at0 hj2, ?_⟩
        refine ⟨hE2, small (by rw [VI_len]; omega), s2.turn hE, upd_same, ?_, _, rfl⟩
        rw [VI_succ]
      · rintro ys τ H2 ⟨s2, hE2, rfl, _⟩
        rw [hul] at hE2
        have hD2 : H2 D = some (.lst (as.map V.ref)) := s2 _ _ R.at
        refine ⟨D, _, _, rfl, rfl, hD2, small (by rw [List.length_map]; omega), ?_⟩
        exact ⟨as ++ [E], _, rfl, by simp [hal], R.push hE s2 (by rw [hal]; exact hE2)⟩
    · rintro σ H1 ⟨as, o, rfl, hal, R⟩
      exact ⟨_, rfl, k D as H1 (by omega) R⟩
abbrev s_is_whole_below : Stmt := top 7
theorem sc_is_whole_below : FnScope ["thing", "bound"] ["thing", "bound"] (defScope s_is_whole_below) := ⟨rfl, rfl, rfl, by decide +kernel, rfl, by decide +kernel, by decide +kernel⟩
theorem ok_is_whole_below {f : Addr} {fd : FuncData} (F : Fun K "is_whole_below" "is_whole_below" s_is_whole_below f fd) (T : Txt K mg C_NoTurn C_Lines C_Turner) (h_is_whole : Has P w K mg base "is_whole" ["thing"] 1 (sp_is_whole K)) : FnOk P w K mg base CX0 2 f fd ["thing", "bound"] (sp_is_whole_below K) := by
  refine F.ok sc_is_whole_below (fun vs H Q E h => ?_) (fun cdv A outer s H vs Q E hr h => ?_)
  · obtain ⟨x, d, b, rfl, hx, k⟩ := h
    rfl
  · obtain ⟨x, d, b, rfl, hx, k⟩ := h
    refine ⟨_, (pss_one (ps_ret (pe_and (pe_callH h_is_whole hr (by rfl) (pa_cons (pv 0) pa_nil)) (pe_one (pe_chain op_le op_lt pe_int (pv 0) (pv 1)))))), ?_⟩
    refine ⟨_, rfl, x, d, rfl, hx, _, rfl, ?_⟩
    refine ite2 (fun e => ?_) (fun e => ?_)
    · obtain ⟨i, rfl⟩ := wholeD_int e
      cases (show x = .int i from hx)
      refine ⟨_, rfl, _, _, rfl, rfl, _, rfl, ?_⟩
      refine ite2 (fun e1 => ?_) (fun e1 => ?_)
      · refine ⟨_, rfl, _, _, rfl, rfl, ?_⟩
        have e2 : belowD (.int i) b = decide (i < b) := by show (decide (0 ≤ i) && decide (i < b)) = _; rw [e1]; rfl
        rw [e2] at k
        exact k
      · have e2 : belowD (.int i) b = false := by show (decide (0 ≤ i) && decide (i < b)) = _; simp at e1; simp; omega
        rw [e2] at k
        exact k
    · have e2 : belowD d b = false := by
        cases d <;> first | rfl | (exfalso; exact e rfl)
      rw [e2] at k
      exact k
abbrev s_is_list_of_wholes : Stmt := top 11
theorem sc_is_list_of_wholes : FnScope ["thing", "many"] ["thing", "many"] (defScope s_is_list_of_wholes) := ⟨rfl, rfl, rfl, by decide +kernel, rfl, by decide +kernel, by decide +kernel⟩
theorem ok_is_list_of_wholes {f : Addr} {fd : FuncData} (F : Fun K "is_list_of_wholes" "is_list_of_wholes" s_is_list_of_wholes f fd) (T : Txt K mg C_NoTurn C_Lines C_Turner) (h_is_whole : Has P w K mg base "is_whole" ["thing"] 1 (sp_is_whole K)) : FnOk P w K mg base CX0 2 f fd ["thing", "many"] (sp_is_list_of_wholes K) := by
  refine F.ok sc_is_list_of_wholes (fun vs H Q E h => ?_) (fun cdv A outer s H vs Q E hr h => ?_)
  · obtain ⟨a, n, f, rfl, hq, hn, k⟩ := h
    rfl
  · obtain ⟨a, n, f, rfl, hq, hn, k⟩ := h
    refine ⟨_, (pss_one (ps_ret (pe_and (pe_callB (kcall_isinst (K := K)) (by rfl) T.n_isinstance boot_isinstanceB (pa_cons (pv 0) (pa_cons (pe_bltn (v := .ty "list") rfl T.n_list boot_listT rfl) pa_nil))) (pe_and (pe_cmpR op_eq (pe_callB (kcall_len_seq (K := K)) (by rfl) T.n_len PySem.boot_len (pa_cons (pv 0) pa_nil)) (pv 1) (nomark _)) (pe_one (pe_callB (kcall_allB (K := K) (by rfl)) (by rfl) T.n_all boot_allB (pa_cons (pe_comp (N' := ["number"]) (cap := [none]) (by rfl) (by kernel_rfl) (kpi_list (K := K) (pv 0)) (fun _ _ _ _ => (pg_name (i := 0) ndc_1 (by rfl) (by first | exact Or.inl rfl | exact Or.inr rfl))) (fun _ _ _ _ => pts_nil) (fun _ _ _ _ => (pe_callH h_is_whole hr (by rfl) (pa_cons (pv 0) pa_nil)))) pa_nil))))))), ?_⟩
    refine ⟨_, rfl, .ref a, "list", dL n f, rfl, .inr (.inr (.inr (.inr (.inl rfl)))), dL_mk hq, _, rfl, ?_⟩
    refine ifP (by simp [isD, dL]) ?_
    refine ⟨_, rfl, a, _, rfl, .inl hq, _, rfl, rfl, _, rfl, ?_⟩
    refine ifP (isI (by rw [VI_len])) ?_
    refine ⟨_, rfl, a, rfl, ⟨_, hq⟩, fun D hD => ?_⟩
    refine comp_list0 (K := K) (a := a) (xs := VI n f) (fun i ys τ H1 => Same H H1 ∧ H1 D = some (.lst ys) ∧ ys = (List.replicate i true).map V.bl ∧ ∃ o, τ = [o])
      ⟨Same.new hD, upd_same, rfl, none, rfl⟩ (fun i ys τ H1 _ ⟨s1, _⟩ => s1.seq hq) ?_ ?_
    · rintro i x ys τ H1 hx ⟨s1, hD1, rfl, o, rfl⟩
      obtain ⟨hi, rfl⟩ := VI_inv hx
      refine ⟨_, rfl, _, .int (f i), rfl, rfl, hD1, small (by simp; omega), s1.turn hD, upd_same, ?_, _, rfl⟩
      rw [List.replicate_succ', List.map_append]
      rfl
    · rintro ys τ H1 ⟨s1, hD1, rfl, _⟩
      refine ⟨D, List.replicate (VI n f).length true, rfl, .of hD1, ?_⟩
      rw [show (List.replicate (VI n f).length true).all id = true by simp]
      exact k H1 s1
abbrev s_flipped : Stmt := top 12
theorem sc_flipped : FnScope ["table", "width"] ["table", "width"] (defScope s_flipped) := ⟨rfl, rfl, rfl, by decide +kernel, rfl, by decide +kernel, by decide +kernel⟩
theorem ok_flipped {f : Addr} {fd : FuncData} (F : Fun K "flipped" "flipped" s_flipped f fd) (T : Txt K mg C_NoTurn C_Lines C_Turner) (h_column : Has P w K mg base "column" ["table", "j"] 1 (sp_column K)) : FnOk P w K mg base CX0 2 f fd ["table", "width"] (sp_flipped K) := by
  refine F.ok sc_flipped (fun vs H Q E h => ?_) (fun cdv A outer s H vs Q E hr h => ?_)
  · obtain ⟨v, h, w, f, rfl, hv, hh, hw, k⟩ := h
    rfl
  · obtain ⟨v, h, w, f, rfl, hv, hh, hw, k⟩ := h
    refine ⟨_, (pss_one (ps_ret (pe_comp (N' := ["j", "table"]) (cap := [none, some 0]) (by rfl) (by kernel_rfl) (pi_range1 (by rfl) T.n_range (pa_cons (pv 1) pa_nil)) (fun _ _ _ _ => (pg_name (i := 0) ndc_2 (by rfl) (by first | exact Or.inl rfl | exact Or.inr rfl))) (fun _ _ _ _ => pts_nil) (fun _ _ _ _ => (pe_callH h_column hr (by rfl) (pa_cons (pv 1) (pa_cons (pv 0) pa_nil))))))), ?_⟩
    refine ⟨_, rfl, _, rfl, by omega, by omega, fun D hD => ?_⟩
    refine comp_range0 (fun i ys τ H1 => ∃ as, as.length = i ∧ ys = as.map V.ref ∧ Rows H H1 D as h (fun i j => f j i) ∧ ∃ o, τ = [o, some v])
      ⟨[], rfl, rfl, Rows.nil hD, none, rfl⟩ ?_ ?_
    · rintro i ys τ H1 hi ⟨as, hal, rfl, R, o, rfl⟩
      have hi2 : i < w := by omega
      refine ⟨_, rfl, _, rfl, v, h, w, i, f, by rw [Int.zero_add] <;> rfl, Rep.same R.same hv, hh, hi2, fun D2 H2 hD2 s2 h2 => ?_⟩
      exact ⟨s2 _ _ R.at, small (by rw [List.length_map]; omega), as ++ [D2], by simp [hal], by rw [List.map_append]; rfl, R.push hD2 s2 (by rw [hal]; exact h2), _, rfl⟩
    · rintro ys τ H1 ⟨as, hal, rfl, R, _⟩
      exact k D as H1 (by omega) R
abbrev s_ones : Stmt := top 14
theorem sc_ones : FnScope ["size"] ["size"] (defScope s_ones) := ⟨rfl, rfl, rfl, by decide +kernel, rfl, by decide +kernel, by decide +kernel⟩
theorem ok_ones {f : Addr} {fd : FuncData} (F : Fun K "ones" "ones" s_ones f fd) (T : Txt K mg C_NoTurn C_Lines C_Turner) (h_one_row : Has P w K mg base "one_row" ["size", "i"] 1 (sp_one_row K)) : FnOk P w K mg base CX0 2 f fd ["size"] (sp_ones K) := by
  refine F.ok sc_ones (fun vs H Q E h => ?_) (fun cdv A outer s H vs Q E hr h => ?_)
  · obtain ⟨n, rfl, hn, k⟩ := h
    rfl
  · obtain ⟨n, rfl, hn, k⟩ := h
    refine ⟨_, (pss_one (ps_ret (pe_comp (N' := ["i", "size"]) (cap := [none, some 0]) (by rfl) (by kernel_rfl) (pi_range1 (by rfl) T.n_range (pa_cons (pv 0) pa_nil)) (fun _ _ _ _ => (pg_name (i := 0) ndc_4 (by rfl) (by first | exact Or.inl rfl | exact Or.inr rfl))) (fun _ _ _ _ => pts_nil) (fun _ _ _ _ => (pe_callH h_one_row hr (by rfl) (pa_cons (pv 1) (pa_cons (pv 0) pa_nil))))))), ?_⟩
    refine ⟨_, rfl, _, rfl, by omega, by omega, fun D hD => ?_⟩
    refine comp_range0 (fun i ys τ H1 => ∃ as, as.length = i ∧ ys = as.map V.ref ∧ Rows H H1 D as n (fun i j => if j = i then 1 else 0) ∧ ∃ o, τ = [o, some (.int n)])
      ⟨[], rfl, rfl, Rows.nil hD, none, rfl⟩ ?_ ?_
    · rintro i ys τ H1 hi ⟨as, hal, rfl, R, o, rfl⟩
      refine ⟨_, rfl, _, rfl, n, i, by rw [Int.zero_add] <;> rfl, hn, fun D2 H2 hD2 s2 h2 => ?_⟩
      exact ⟨s2 _ _ R.at, small (by rw [List.length_map]; omega), as ++ [D2], by simp [hal], by rw [List.map_append]; rfl, R.push hD2 s2 (by rw [hal]; exact h2), _, rfl⟩
    · rintro ys τ H1 ⟨as, hal, rfl, R, _⟩
      exact k D as H1 (by omega) R
abbrev s_turned : Stmt := top 19
theorem sc_turned : FnScope ["lines", "turn", "told", "i"] ["lines", "turn"] (defScope s_turned) := ⟨rfl, rfl, rfl, by decide +kernel, rfl, by decide +kernel, by decide +kernel⟩
theorem nd_turned : (["lines", "turn", "told", "i"] : List Str).Nodup := by decide +kernel

theorem ok_turned {f : Addr} {fd : FuncData} (F : Fun K "turned" "turned" s_turned f fd) (T : Txt K mg C_NoTurn C_Lines C_Turner) (h_mixed : Has P w K mg base "mixed" ["a", "one", "b", "other"] 1 (sp_mixed K)) : FnOk P w K mg base CX0 2 f fd ["lines", "turn"] (sp_turned K) := by
  refine F.ok sc_turned (fun vs H Q E h => ?_) (fun cdv A outer s H vs Q E hr h => ?_)
  · obtain ⟨v, u, Z, h, w, B, f, t, rfl, hv, hz, hu, hok, bf, bt, hB, hh, hw, k⟩ := h
    rfl
  · obtain ⟨v, u, Z, h, w, B, f, t, rfl, hv, hz, hu, hok, bf, bt, hB, hh, hw, k⟩ := h
    refine ⟨_, (pss_cons (ps_set (i := 2) nd_turned (by rfl) (by first | exact Or.inl rfl | exact Or.inr rfl) (pe_callTy (kcall_list_of (K := K)) (by rfl) T.n_list boot_listT (pa_cons (pv 0) pa_nil)))
      (pss_cons (ps_set (i := 3) nd_turned (by rfl) (by first | exact Or.inl rfl | exact Or.inr rfl) (pe_ix (kix_tup (K := K)) (pv 1) pe_int (fun _ _ => rfl)))
      (pss_cons (ps_if (pt_cmpR op_eq (pe_ix (kix_tup (K := K)) (pv 1) pe_int (fun _ _ => rfl)) pe_str (nomark _)) (pss_one (ps_asg (pe_comp (N' := ["number"]) (cap := [none]) (by rfl) (by kernel_rfl) (kpi_list (K := K) (pe_ix (kix_list (K := K)) (pv 0) (pv 3) (fun _ _ => rfl))) (fun _ _ _ _ => (pg_name (i := 0) ndc_1 (by rfl) (by first | exact Or.inl rfl | exact Or.inr rfl))) (fun _ _ _ _ => pts_nil) (fun _ _ _ _ => (pe_un un_neg (pv 0)))) (pg_sub (pv 2) (pv 3) set_list))) (pss_one (ps_if (pt_cmpR op_eq (pe_ix (kix_tup (K := K)) (pv 1) pe_int (fun _ _ => rfl)) pe_str (nomark _)) (pss_cons (ps_asg (pe_ix (kix_list (K := K)) (pv 0) (pe_ix (kix_tup (K := K)) (pv 1) pe_int (fun _ _ => rfl)) (fun _ _ => rfl)) (pg_sub (pv 2) (pv 3) set_list))
      (pss_one (ps_asg (pe_ix (kix_list (K := K)) (pv 0) (pv 3) (fun _ _ => rfl)) (pg_sub (pv 2) (pe_ix (kix_tup (K := K)) (pv 1) pe_int (fun _ _ => rfl)) set_list)))) (pss_one (ps_asg (pe_callH h_mixed hr (by rfl) (pa_cons pe_int (pa_cons (pe_ix (kix_list (K := K)) (pv 0) (pv 3) (fun _ _ => rfl)) (pa_cons (pe_ix (kix_tup (K := K)) (pv 1) pe_int (fun _ _ => rfl)) (pa_cons (pe_ix (kix_list (K := K)) (pv 0) (pe_ix (kix_tup (K := K)) (pv 1) pe_int (fun _ _ => rfl)) (fun _ _ => rfl)) pa_nil))))) (pg_sub (pv 2) (pv 3) set_list))))))
      (pss_one (ps_ret (pv 2)))))), ?_⟩
    have nz : ∀ a, H a = none → ¬ Z a := fun a e z => hz a z e
    have hvH : Rep K H v (dT h w f) := Rep.same hide_same hv
    obtain ⟨a, us, rfl, hq, hul, hrow⟩ := dT_sq hv
    have hqH : SqL K H a us := hide_same.seq hq
    have row : ∀ r, r < h → ∃ b, us[r]? = some (.ref b) ∧ SqL K (hide H Z) b (VI w (f r)) := fun r hr => by
      obtain ⟨_, b, e, hb⟩ := hrow r us[r] (List.getElem?_eq_getElem (by omega))
      exact ⟨b, by rw [List.getElem?_eq_getElem (by omega), e], hb⟩
    have ix : ∀ r, r < h → ixN us.length ((r : Nat) : Int) = some r := fun r hr => by
      unfold ixN
      rw [if_pos (by omega), if_pos (by omega), Int.toNat_natCast]
    refine ⟨_, rfl, a, us, rfl, .inl hqH, fun L hL => ?_⟩
    have sL : Same H (upd H L (.lst us)) := Same.new hL
    generalize hHL : upd H L (.lst us) = HL at sL
    have hLL : HL L = some (.lst us) := by rw [← hHL]; exact upd_same
    have hqL : SqL K HL a us := sL.seq hqH
    cases t with
    | mi i =>
      have hi : i < h := hok
      obtain ⟨ta, vs, rfl, hT, rT⟩ := hu
      obtain ⟨_, _, rfl, rfl, _, _, rfl, rfl, rfl⟩ := rT
      have hT1 : SqT K HL ta [V.str "minus", V.int i] := sL.seqT hT
      obtain ⟨b, eb, hb⟩ := row i hi
      refine ⟨_, rfl, ta, _, _, _, rfl, rfl, hT1, rfl, ?_⟩
      refine ⟨_, rfl, ta, _, _, _, rfl, rfl, hT1, rfl, rfl, _, rfl, ?_⟩
      refine ifP (by decide +kernel) ?_
      refine ⟨_, rfl, _, rfl, a, us, _, _, rfl, rfl, hqL, atI_nat eb, b, rfl, ⟨_, sL.seq (hide_same.seq hb)⟩, fun D hD => ?_⟩
      refine comp_list0 (K := K) (a := b) (xs := VI w (f i)) (fun c ys τ H1 => Same HL H1 ∧ H1 D = some (.lst ys) ∧ ys = VI c (fun c => -(f i c)) ∧ ∃ o, τ = [o])
        ⟨Same.new hD, upd_same, rfl, none, rfl⟩ (fun c ys τ H1 _ ⟨s1, _⟩ => s1.seq (sL.seq (hide_same.seq hb))) ?_ ?_
      · rintro c x ys τ H1 hx ⟨s1, hD1, rfl, o, rfl⟩
        obtain ⟨hc, rfl⟩ := VI_inv hx
        refine ⟨_, rfl, _, rfl, hD1, small (by rw [VI_len]; omega), s1.turn hD, upd_same, ?_, _, rfl⟩
        rw [VI_succ]
      · rintro ys τ H1 ⟨s1, hD1, rfl, _⟩
        rw [VI_len] at hD1
        have hL1 := s1 _ _ hLL
        have nDL : D ≠ L := fun z => by rw [z, hLL] at hD; cases hD
        refine ⟨_, rfl, _, rfl, L, us, _, i, rfl, rfl, hL1, ix i hi, ?_⟩
        refine ⟨_, rfl, ?_⟩
        have s2 : Same H (upd H1 L (.lst (us.set i (.ref D)))) := (sL.trans s1).turn hL
        refine k L _ hL s2 ?_
        refine dT_mk (us := us.set i (.ref D)) (.of ?_) (by simpa using hul) fun r hr => ?_
        · rw [hide_no (nz L hL)]; exact upd_same
        · rw [List.getElem?_set]
          by_cases e : i = r
          · subst e
            rw [if_pos rfl, if_pos (by omega)]
            refine ⟨D, rfl, .of ?_⟩
            rw [hide_no (nz D (sL.free hD)), upd_ne nDL, hD1]
            congr 2
            refine VI_congr fun c _ => ?_
            simp [tnF]
          · rw [if_neg e]
            obtain ⟨b', e1, e2⟩ := row r hr
            refine ⟨b', e1, ?_⟩
            have e3 : tnF (.mi i) f r = f r := by funext c; simp [tnF, Ne.symm e]
            rw [e3]
            exact (same_hid s2).seq e2
    | sw i j =>
      obtain ⟨hi, hj, hij⟩ := hok
      obtain ⟨ta, vs, rfl, hT, rT⟩ := hu
      obtain ⟨_, _, rfl, rfl, _, _, rfl, rfl, _, _, rfl, rfl, rfl⟩ := rT
      have hT1 : SqT K HL ta [V.str "swap", V.int i, V.int j] := sL.seqT hT
      obtain ⟨bi, ebi, hbi⟩ := row i hi
      obtain ⟨bj, ebj, hbj⟩ := row j hj
      refine ⟨_, rfl, ta, _, _, _, rfl, rfl, hT1, rfl, ?_⟩
      refine ⟨_, rfl, ta, _, _, _, rfl, rfl, hT1, rfl, rfl, _, rfl, ?_⟩
      refine ifN (by decide +kernel) ?_
      refine ⟨_, rfl, ta, _, _, _, rfl, rfl, hT1, rfl, rfl, _, rfl, ?_⟩
      refine ifP (by decide +kernel) ?_
      refine ⟨_, rfl, _, rfl, ta, _, _, _, rfl, rfl, hT1, rfl, a, us, _, _, rfl, rfl, hqL, atI_nat ebj, ?_⟩
      refine ⟨_, rfl, _, rfl, L, us, _, i, rfl, rfl, hLL, ix i hi, ?_⟩
      have s1 : Same H (upd HL L (.lst (us.set i (.ref bj)))) := sL.turn hL
      refine ⟨_, rfl, _, rfl, a, us, _, _, rfl, rfl, s1.seq hqH, atI_nat ebi, ?_⟩
      refine ⟨_, rfl, _, rfl, ta, _, _, _, rfl, rfl, s1.seqT hT, rfl, L, _, _, j, rfl, rfl, upd_same, by rw [List.length_set]; exact ix j hj, ?_⟩
      refine ⟨_, rfl, ?_⟩
      have s2 : Same H (upd (upd HL L (.lst (us.set i (.ref bj)))) L (.lst ((us.set i (.ref bj)).set j (.ref bi)))) := s1.turn hL
      refine k L _ hL s2 ?_
      refine dT_mk (us := (us.set i (.ref bj)).set j (.ref bi)) (.of ?_) (by simpa using hul) fun r hr => ?_
      · rw [hide_no (nz L hL)]; exact upd_same
      · rw [List.getElem?_set, List.length_set]
        by_cases e : j = r
        · subst e
          rw [if_pos rfl, if_pos (by omega)]
          refine ⟨bi, rfl, ?_⟩
          have e3 : tnF (.sw i j) f j = f i := by funext c; simp [tnF]
          rw [e3]
          exact (same_hid s2).seq hbi
        · rw [if_neg e, List.getElem?_set]
          by_cases e2 : i = r
          · subst e2
            rw [if_pos rfl, if_pos (by omega)]
            refine ⟨bj, rfl, ?_⟩
            have e3 : tnF (.sw i j) f i = f j := by funext c; simp [tnF, hij]
            rw [e3]
            exact (same_hid s2).seq hbj
          · rw [if_neg e2]
            obtain ⟨b', e1, e4⟩ := row r hr
            refine ⟨b', e1, ?_⟩
            have e3 : tnF (.sw i j) f r = f r := by funext c; simp [tnF, Ne.symm e, Ne.symm e2]
            rw [e3]
            exact (same_hid s2).seq e4
    | ad i j n =>
      obtain ⟨hi, hj, hij⟩ := hok
      obtain ⟨ta, vs, rfl, hT, rT⟩ := hu
      obtain ⟨_, _, rfl, rfl, _, _, rfl, rfl, _, _, rfl, rfl, _, _, rfl, rfl, rfl⟩ := rT
      have hT1 : SqT K HL ta [V.str "add", V.int i, V.int j, V.int n] := sL.seqT hT
      obtain ⟨bi, ebi, hbi⟩ := row i hi
      obtain ⟨bj, ebj, hbj⟩ := row j hj
      refine ⟨_, rfl, ta, _, _, _, rfl, rfl, hT1, rfl, ?_⟩
      refine ⟨_, rfl, ta, _, _, _, rfl, rfl, hT1, rfl, rfl, _, rfl, ?_⟩
      refine ifN (by decide +kernel) ?_
      refine ⟨_, rfl, ta, _, _, _, rfl, rfl, hT1, rfl, rfl, _, rfl, ?_⟩
      refine ifN (by decide +kernel) ?_
      refine ⟨_, rfl, _, rfl, a, us, _, _, rfl, rfl, hqL, atI_nat ebi, _, rfl, ta, _, _, _, rfl, rfl, hT1, rfl, _, rfl, _, rfl, ta, _, _, _, rfl, rfl, hT1, rfl, a, us, _, _, rfl, rfl, hqL, atI_nat ebj, ?_⟩
      refine ⟨1, n, bi, bj, w, f i, f j, rfl, sL.seq (hide_same.seq hbi), sL.seq (hide_same.seq hbj), hw, fun c hc => ⟨mulokL (by decide) (by decide), mulok bt (bf j c) (by omega)⟩, fun D H1 hD s1 hD1 => ?_⟩
      have hL1 := s1 _ _ hLL
      have nDL : D ≠ L := fun z => by rw [z, hLL] at hD; cases hD
      refine ⟨_, rfl, _, rfl, L, us, _, i, rfl, rfl, hL1, ix i hi, ?_⟩
      refine ⟨_, rfl, ?_⟩
      have s2 : Same H (upd H1 L (.lst (us.set i (.ref D)))) := (sL.trans s1).turn hL
      refine k L _ hL s2 ?_
      refine dT_mk (us := us.set i (.ref D)) (.of ?_) (by simpa using hul) fun r hr => ?_
      · rw [hide_no (nz L hL)]; exact upd_same
      · rw [List.getElem?_set]
        by_cases e : i = r
        · subst e
          rw [if_pos rfl, if_pos (by omega)]
          refine ⟨D, rfl, .of ?_⟩
          rw [hide_no (nz D (sL.free hD)), upd_ne nDL, hD1]
          congr 2
          refine VI_congr fun c _ => ?_
          simp [tnF]
        · rw [if_neg e]
          obtain ⟨b', e1, e2⟩ := row r hr
          refine ⟨b', e1, ?_⟩
          have e3 : tnF (.ad i j n) f r = f r := by funext c; simp [tnF, Ne.symm e]
          rw [e3]
          exact (same_hid s2).seq e2
abbrev s_Turner_now : Stmt := inClass (top 27) 7
theorem sc_Turner_now : FnScope ["self"] ["self"] (defScope s_Turner_now) := ⟨rfl, rfl, rfl, by decide +kernel, rfl, by decide +kernel, by decide +kernel⟩
theorem ok_Turner_now {f : Addr} {fd : FuncData} (F : Fun K "now" "Turner.now" s_Turner_now f fd) (T : Txt K mg C_NoTurn C_Lines C_Turner) (h_copied : Has P w K mg base "copied" ["table"] 1 (sp_copied K)) : FnOk P w K mg base CX0 2 f fd ["self"] (spW_now K C_Lines C_Turner) := by
  refine F.ok sc_Turner_now (fun vs H Q E h => ?_) (fun cdv A outer s H vs Q E hr h => ?_)
  · obtain ⟨p, L, R, dn, Z, h, w, B, S, ds, rfl, x, k⟩ := h
    rfl
  · obtain ⟨p, L, R, dn, Z, h, w, B, S, ds, rfl, x, k⟩ := h
    refine ⟨_, (pss_one (ps_ret (pe_callH h_copied hr (by rfl) (pa_cons (kpe_fld (K := K) (pv 0)) pa_nil)))), ?_⟩
    obtain ⟨sm1, sm2, sm3⟩ := x.sm
    obtain ⟨tb, ⟨dx, fs, hp, l1, l2, l3, l4, l5, lm, l6⟩, hrep⟩ := x.ob
    exact ⟨_, rfl, p, C_Turner, dx, fs, _, rfl, hp, T.cl_Turner, T.na_Turner_table, l1, tb, h, w, S.f, rfl, Rep.same hide_same hrep, by omega, k⟩
abbrev s_L_table_by : Stmt := top 33
theorem sc_L_table_by : FnScope ["_law_script", "_law_begin", "_law_height", "_law_width", "_law_kind", "_law_rows", "_law_i", "_law_row", "_law_j"] ["_law_script", "_law_begin", "_law_height", "_law_width", "_law_kind"] (defScope s_L_table_by) := ⟨rfl, rfl, rfl, by decide +kernel, rfl, by decide +kernel, by decide +kernel⟩
theorem nd_L_table_by : (["_law_script", "_law_begin", "_law_height", "_law_width", "_law_kind", "_law_rows", "_law_i", "_law_row", "_law_j"] : List Str).Nodup := by decide +kernel

theorem ok_L_table_by {f : Addr} {fd : FuncData} (F : Fun K "_law_table_by" "_law_table_by" s_L_table_by f fd) (T : Txt K mg C_NoTurn C_Lines C_Turner) (h_L_number_by : Has P w K mg base "_law_number_by" ["_law_cell", "_law_kind"] 1 (sp_L_number_by K)) (h_L_spread : Has P w K mg base "_law_spread" ["_law_script", "_law_k"] 1 (sp_L_spread K)) : FnOk P w K mg base CX0 2 f fd ["_law_script", "_law_begin", "_law_height", "_law_width", "_law_kind"] (sp_L_table_by K) := by
  refine F.ok sc_L_table_by (fun vs H Q E h => ?_) (fun cdv A outer s H vs Q E hr h => ?_)
  · obtain ⟨a, ns, b, h, w, kind, rfl, hS, hl, hbit, hb, hh, hw, k⟩ := h
    rfl
  · obtain ⟨a, ns, b, h, w, kind, rfl, hS, hl, hbit, hb, hh, hw, k⟩ := h
    refine ⟨_, (pss_cons (ps_set (i := 5) nd_L_table_by (by rfl) (by first | exact Or.inl rfl | exact Or.inr rfl) (pe_lst pa_nil))
      (pss_cons (ps_for PassesOwn.never rfl (pi_range1 (by rfl) T.n_range (pa_cons (pv 2) pa_nil)) (pg_name (i := 6) nd_L_table_by (by rfl) (by first | exact Or.inl rfl | exact Or.inr rfl)) (pss_cons (ps_set (i := 7) nd_L_table_by (by rfl) (by first | exact Or.inl rfl | exact Or.inr rfl) (pe_lst pa_nil))
      (pss_cons (ps_for PassesOwn.never rfl (pi_range1 (by rfl) T.n_range (pa_cons (pv 3) pa_nil)) (pg_name (i := 8) nd_L_table_by (by rfl) (by first | exact Or.inl rfl | exact Or.inr rfl)) (pss_one (ps_expr (kpe_bm (K := K) PySem.F.plainAttrs_list PySem.F.slot_list_append PySem.F.type_list_append mt_append (pv 7) (pa_cons (pe_callH h_L_number_by hr (by rfl) (pa_cons (pe_callH h_L_spread hr (by rfl) (pa_cons (pv 0) (pa_cons (pe_op op_add (pe_op op_add (pv 1) (pe_op op_mulX (pv 6) (pv 3))) (pv 8)) pa_nil))) (pa_cons (pv 4) pa_nil))) pa_nil)))))
      (pss_one (ps_expr (kpe_bm (K := K) PySem.F.plainAttrs_list PySem.F.slot_list_append PySem.F.type_list_append mt_append (pv 5) (pa_cons (pv 7) pa_nil)))))))
      (pss_one (ps_ret (pv 5))))), ?_⟩
    refine ⟨Nat.zero_le _, fun D hD => ?_⟩
    refine ⟨_, rfl, _, rfl, by omega, by omega, ?_⟩
    have hwN : (w : Int).toNat = w := Int.toNat_natCast w
    refine for_range (lo := 0) (n := (h : Int).toNat) (fun i σ H1 => ∃ (as : List Addr) (o1 o2 o3 : Option V), σ = [some (.ref a), some (.int b), some (.int h), some (.int w), some (.int kind), some (.ref D), o1, o2, o3] ∧ as.length = i ∧ Rows H H1 D as w (fun i j => numV (spreadV ns ((b + i * w + j : Nat) : Int)) kind))
      ⟨[], none, none, none, rfl, rfl, Rows.nil hD⟩ ?_ ?_
    · rintro i σ H1 hi ⟨as, o1, o2, o3, rfl, hal, R⟩
      have hi2 : i < h := by omega
      have hiw : i * w ≤ 3600 := by
        have : i * w ≤ 60 * 60 := Nat.mul_le_mul (by omega) hw
        omega
      refine ⟨Nat.zero_le _, fun E hE => ?_⟩
      refine ⟨_, rfl, _, rfl, by omega, by omega, ?_⟩
      refine for_range (lo := 0) (n := (w : Int).toNat) (fun j σ H2 => ∃ (o3 : Option V), σ = [some (.ref a), some (.int b), some (.int h), some (.int w), some (.int kind), some (.ref D), some (.int (0 + i)), some (.ref E), o3] ∧ Same H1 H2 ∧ H2 E = some (.lst (VI j fun j => numV (spreadV ns ((b + i * w + j : Nat) : Int)) kind)))
        ⟨_, rfl, Same.new hE, upd_same⟩ ?_ ?_
      · rintro j σ H2 hj ⟨o3', rfl, s2, hE2⟩
        have hj2 : j < w := by omega
        have ek : (b : Int) + (0 + (i : Int)) * (w : Int) + (0 + (j : Int)) = ((b + i * w + j : Nat) : Int) := by
          rw [Int.zero_add, Int.zero_add]
          simp
        refine ⟨_, rfl, .inl ⟨rfl, _, .of hE2⟩, _, rfl, _, rfl, _, rfl, _, rfl, _, _, rfl, rfl, mulokL (by omega) (by omega), _, _, rfl, rfl, _, rfl, _, _, rfl, rfl, a, ns, _, rfl, (R.same.trans s2).seq hS, by rw [ek]; omega, by rw [ek]; omega, hl, ?_⟩
        rw [ek]
        refine ⟨_, rfl, _, kind, rfl, spread_bd hbit (by omega) (by omega), ?_⟩
        refine ⟨E, _, _, rfl, rfl, hE2, small (by rw [VI_len]; omega), ?_⟩
        refine ⟨_, rfl, s2.turn hE, ?_⟩
        rw [upd_same, VI_succ]
      · rintro σ H2 ⟨o3', rfl, s2, hE2⟩
        rw [hwN] at hE2
        have hD2 : H2 D = some (.lst (as.map V.ref)) := s2 _ _ R.at
        refine ⟨_, rfl, .inl ⟨rfl, _, .of hD2⟩, _, rfl, D, _, _, rfl, rfl, hD2, small (by rw [List.length_map]; omega), ?_⟩
        exact ⟨as ++ [E], _, _, _, rfl, by simp [hal], R.push hE s2 (by rw [hal]; exact hE2)⟩
    · rintro σ H1 ⟨as, o1, o2, o3, rfl, hal, R⟩
      exact ⟨_, rfl, k D as H1 (by omega) R⟩
abbrev s_L_is_table : Stmt := top 34
theorem sc_L_is_table : FnScope ["_law_found", "_law_height", "_law_width", "_law_row", "_law_number"] ["_law_found", "_law_height", "_law_width"] (defScope s_L_is_table) := ⟨rfl, rfl, rfl, by decide +kernel, rfl, by decide +kernel, by decide +kernel⟩
theorem nd_L_is_table : (["_law_found", "_law_height", "_law_width", "_law_row", "_law_number"] : List Str).Nodup := by decide +kernel

theorem ok_L_is_table {f : Addr} {fd : FuncData} (F : Fun K "_law_is_table" "_law_is_table" s_L_is_table f fd) (T : Txt K mg C_NoTurn C_Lines C_Turner) (h_L_whole : Has P w K mg base "_law_whole" ["_law_found"] 1 (sp_L_whole K)) : FnOk P w K mg base CX0 2 f fd ["_law_found", "_law_height", "_law_width"] (sp_L_is_table K) := by
  refine F.ok sc_L_is_table (fun vs H Q E h => ?_) (fun cdv A outer s H vs Q E hr h => ?_)
  · obtain ⟨v, h, w, f, rfl, hv, k⟩ := h
    rfl
  · obtain ⟨v, h, w, f, rfl, hv, k⟩ := h
    refine ⟨_, (pss_cons (ps_if (PW.pt (pw_or (pt_not (pt_val (pe_callB (kcall_isinst (K := K)) (by rfl) T.n_isinstance boot_isinstanceB (pa_cons (pv 0) (pa_cons (pe_bltn (v := .ty "list") rfl T.n_list boot_listT rfl) pa_nil))))) (pw_or1 (pt_cmpR op_ne (pe_callB (kcall_len_seq (K := K)) (by rfl) T.n_len PySem.boot_len (pa_cons (pv 0) pa_nil)) (pv 1) (nomark _))))) (pss_one (ps_ret pe_bl)) pss_nil)
      (pss_cons (ps_for PassesOwn.never rfl (kpi_list (K := K) (pv 0)) (pg_name (i := 3) nd_L_is_table (by rfl) (by first | exact Or.inl rfl | exact Or.inr rfl)) (pss_cons (ps_if (PW.pt (pw_or (pt_not (pt_val (pe_callB (kcall_isinst (K := K)) (by rfl) T.n_isinstance boot_isinstanceB (pa_cons (pv 3) (pa_cons (pe_bltn (v := .ty "list") rfl T.n_list boot_listT rfl) pa_nil))))) (pw_or1 (pt_cmpR op_ne (pe_callB (kcall_len_seq (K := K)) (by rfl) T.n_len PySem.boot_len (pa_cons (pv 3) pa_nil)) (pv 2) (nomark _))))) (pss_one (ps_ret pe_bl)) pss_nil)
      (pss_one (ps_for PassesOwn.never rfl (kpi_list (K := K) (pv 3)) (pg_name (i := 4) nd_L_is_table (by rfl) (by first | exact Or.inl rfl | exact Or.inr rfl)) (pss_one (ps_if (pt_not (pt_val (pe_callH h_L_whole hr (by rfl) (pa_cons (pv 4) pa_nil)))) (pss_one (ps_ret pe_bl)) pss_nil))))))
      (pss_one (ps_ret pe_bl)))), ?_⟩
    obtain ⟨a, us, rfl, hq, hul, hrow⟩ := dT_sq hv
    refine ⟨_, rfl, .ref a, "list", dT h w f, rfl, .inr (.inr (.inr (.inr (.inl rfl)))), hv, _, rfl, ?_⟩
    refine ifN (by simp [isD, dT]) ?_
    refine ⟨_, rfl, a, _, rfl, .inl hq, _, rfl, rfl, _, rfl, ?_⟩
    refine ifN (by simp [hul]) ?_
    refine ⟨_, rfl, a, rfl, ⟨_, hq⟩, ?_⟩
    refine for_list (K := K) (a := a) (xs := us) (fun i σ H1 => ∃ o1 o2, σ = [some (.ref a), some (.int h), some (.int w), o1, o2] ∧ H = H1)
      ⟨_, _, rfl, rfl⟩ (fun i σ H1 _ ⟨_, _, _, e⟩ => e ▸ hq) ?_ ?_
    · rintro i u σ H1 hu ⟨o1, o2, rfl, rfl⟩
      obtain ⟨hi, b, rfl, hb⟩ := hrow i _ hu
      refine ⟨_, rfl, .ref b, "list", dL w (f i), rfl, .inr (.inr (.inr (.inr (.inl rfl)))), dL_mk hb, _, rfl, ?_⟩
      refine ifN (by simp [isD, dL]) ?_
      refine ⟨_, rfl, b, _, rfl, .inl hb, _, rfl, rfl, _, rfl, ?_⟩
      refine ifN (by simp [VI_len, lsI_len]) ?_
      refine ⟨_, rfl, b, rfl, ⟨_, hb⟩, ?_⟩
      refine for_list (K := K) (a := b) (xs := VI w (f i)) (fun j σ H1 => ∃ o2, σ = [some (.ref a), some (.int h), some (.int w), some (.ref b), o2] ∧ H = H1)
        ⟨_, rfl, rfl⟩ (fun j σ H1 _ ⟨_, _, e⟩ => e ▸ hb) ?_ ?_
      · rintro j x σ H1 hx ⟨o2', rfl, rfl⟩
        obtain ⟨hj, rfl⟩ := VI_inv hx
        refine ⟨_, rfl, _, .int (f i j), rfl, rfl, _, rfl, ?_⟩
        refine ifN (by simp [wholeD, isD]) ?_
        exact ⟨_, rfl, rfl⟩
      · rintro σ H1 ⟨o2', rfl, rfl⟩
        exact ⟨_, _, rfl, rfl⟩
    · rintro σ H1 ⟨o1, o2, rfl, rfl⟩
      exact k
abbrev s_L_rows_turned : Stmt := top 40
theorem sc_L_rows_turned : FnScope ["_law_table", "_law_turn", "_law_rows", "_law_at"] ["_law_table", "_law_turn"] (defScope s_L_rows_turned) := ⟨rfl, rfl, rfl, by decide +kernel, rfl, by decide +kernel, by decide +kernel⟩
theorem nd_L_rows_turned : (["_law_table", "_law_turn", "_law_rows", "_law_at"] : List Str).Nodup := by decide +kernel

theorem ok_L_rows_turned {f : Addr} {fd : FuncData} (F : Fun K "_law_rows_turned" "_law_rows_turned" s_L_rows_turned f fd) (T : Txt K mg C_NoTurn C_Lines C_Turner) (h_L_copy : Has P w K mg base "_law_copy" ["_law_table"] 1 (spW_copy K)) : FnOk P w K mg base CX0 2 f fd ["_law_table", "_law_turn"] (sp_L_rows_turned K) := by
  refine F.ok sc_L_rows_turned (fun vs H Q E h => ?_) (fun cdv A outer s H vs Q E hr h => ?_)
  · obtain ⟨v, u, h, w, B, f, t, rfl, hv, hu, hok, bf, bt, hB, hh, hw, k⟩ := h
    rfl
  · obtain ⟨v, u, h, w, B, f, t, rfl, hv, hu, hok, bf, bt, hB, hh, hw, k⟩ := h
    refine ⟨_, (pss_cons (ps_set (i := 2) nd_L_rows_turned (by rfl) (by first | exact Or.inl rfl | exact Or.inr rfl) (pe_callH h_L_copy hr (by rfl) (pa_cons (pv 0) pa_nil)))
      (pss_cons (ps_set (i := 3) nd_L_rows_turned (by rfl) (by first | exact Or.inl rfl | exact Or.inr rfl) (pe_ix (kix_tup (K := K)) (pv 1) pe_int (fun _ _ => rfl)))
      (pss_cons (ps_if (pt_cmpR op_eq (pe_ix (kix_tup (K := K)) (pv 1) pe_int (fun _ _ => rfl)) pe_str (nomark _)) (pss_one (ps_asg (pe_comp (N' := ["_law_number"]) (cap := [none]) (by rfl) (by kernel_rfl) (kpi_list (K := K) (pe_ix (kix_list (K := K)) (pv 0) (pv 3) (fun _ _ => rfl))) (fun _ _ _ _ => (pg_name (i := 0) ndc_10 (by rfl) (by first | exact Or.inl rfl | exact Or.inr rfl))) (fun _ _ _ _ => pts_nil) (fun _ _ _ _ => (pe_un un_neg (pv 0)))) (pg_sub (pv 2) (pv 3) set_list))) (pss_one (ps_if (pt_cmpR op_eq (pe_ix (kix_tup (K := K)) (pv 1) pe_int (fun _ _ => rfl)) pe_str (nomark _)) (pss_cons (ps_asg (pe_callTy (kcall_list_of (K := K)) (by rfl) T.n_list boot_listT (pa_cons (pe_ix (kix_list (K := K)) (pv 0) (pe_ix (kix_tup (K := K)) (pv 1) pe_int (fun _ _ => rfl)) (fun _ _ => rfl)) pa_nil)) (pg_sub (pv 2) (pv 3) set_list))
      (pss_one (ps_asg (pe_callTy (kcall_list_of (K := K)) (by rfl) T.n_list boot_listT (pa_cons (pe_ix (kix_list (K := K)) (pv 0) (pv 3) (fun _ _ => rfl)) pa_nil)) (pg_sub (pv 2) (pe_ix (kix_tup (K := K)) (pv 1) pe_int (fun _ _ => rfl)) set_list)))) (pss_one (ps_asg (pe_comp (N' := ["_law_number", "_law_more", "_law_turn"]) (cap := [none, none, some 1]) (by rfl) (by kernel_rfl) (pi_zip (K := K) (by rfl) T.n_zip (pa_cons (pe_ix (kix_list (K := K)) (pv 0) (pv 3) (fun _ _ => rfl)) (pa_cons (pe_ix (kix_list (K := K)) (pv 0) (pe_ix (kix_tup (K := K)) (pv 1) pe_int (fun _ _ => rfl)) (fun _ _ => rfl)) pa_nil))) (fun _ _ _ _ => (kpg_tup (K := K) (n := 2) (by rfl) (pgs_cons (pg_name (i := 0) ndc_11 (by rfl) (by first | exact Or.inl rfl | exact Or.inr rfl)) (pgs_cons (pg_name (i := 1) ndc_11 (by rfl) (by first | exact Or.inl rfl | exact Or.inr rfl)) pgs_nil)))) (fun _ _ _ _ => pts_nil) (fun _ _ _ _ => (pe_op op_add (pv 0) (pe_op op_mulX (pe_ix (kix_tup (K := K)) (pv 2) pe_int (fun _ _ => rfl)) (pv 1))))) (pg_sub (pv 2) (pv 3) set_list))))))
      (pss_one (ps_ret (pv 2)))))), ?_⟩
    obtain ⟨a, us, rfl, hq, hul, hrow⟩ := dT_sq hv
    have row : ∀ r, r < h → ∃ b, us[r]? = some (.ref b) ∧ SqL K H b (VI w (f r)) := fun r hr => by
      obtain ⟨_, b, e, hb⟩ := hrow r us[r] (List.getElem?_eq_getElem (by omega))
      exact ⟨b, by rw [List.getElem?_eq_getElem (by omega), e], hb⟩
    refine ⟨_, rfl, .ref a, rowsOf h w f, rfl, (by rw [← dT_dR]; exact hv), (by rw [rowsOf_len]; omega), fun D as H1 s' n' t' w' => ?_⟩
    obtain ⟨hal, R⟩ := t'.toRows s' n' w'
    have s1 := R.same
    have ix : ∀ r, r < h → ixN (as.map V.ref).length ((r : Nat) : Int) = some r := fun r hr => by
      unfold ixN
      rw [List.length_map, if_pos (by omega), if_pos (by omega), Int.toNat_natCast]
    have fin : ∀ {H2 : Hp} {vs : List V} {f' : Nat → Nat → Int}, Same H1 H2 → vs.length = h → (∀ r, r < h → ∃ b, vs[r]? = some (.ref b) ∧ b ≠ D ∧ H b = none ∧ H2 b = some (.lst (VI w (f' r)))) → Rep K (hide (upd H2 D (.lst vs)) fun a => H a ≠ none) (.ref D) (dT h w f') := fun {H2 vs f'} s2 hl hr => by
      refine dT_mk (us := vs) (.of ?_) hl fun r hr' => ?_
      · rw [hide_no (fun z => z R.free)]; exact upd_same
      · obtain ⟨b, e1, n1, e2, e3⟩ := hr r hr'
        refine ⟨b, e1, .of ?_⟩
        rw [hide_no (fun z => z e2), upd_ne n1]
        exact e3
    have old : ∀ r, r < h → ∃ b, (as.map V.ref)[r]? = some (.ref b) ∧ b ≠ D ∧ H b = none ∧ H1 b = some (.lst (VI w (f r))) := fun r hr => by
      have hr' : r < as.length := by omega
      obtain ⟨h1, h2, h3⟩ := R.row r as[r] (List.getElem?_eq_getElem hr')
      exact ⟨as[r], by rw [List.getElem?_map, List.getElem?_eq_getElem hr']; rfl, h2, h1, h3⟩
    have lm : (as.map V.ref).length = h := by rw [List.length_map]; exact hal
    cases t with
    | mi i =>
      have hi : i < h := hok
      obtain ⟨ta, vs, rfl, hT, rT⟩ := hu
      obtain ⟨_, _, rfl, rfl, _, _, rfl, rfl, rfl⟩ := rT
      have hT1 : SqT K H1 ta [V.str "minus", V.int i] := s1.seqT hT
      obtain ⟨b, eb, hb⟩ := row i hi
      refine ⟨_, rfl, ta, _, _, _, rfl, rfl, hT1, rfl, ?_⟩
      refine ⟨_, rfl, ta, _, _, _, rfl, rfl, hT1, rfl, rfl, _, rfl, ?_⟩
      refine ifP (by decide +kernel) ?_
      refine ⟨_, rfl, _, rfl, a, us, _, _, rfl, rfl, s1.seq hq, atI_nat eb, b, rfl, ⟨_, s1.seq hb⟩, fun E hE => ?_⟩
      refine comp_list0 (K := K) (a := b) (xs := VI w (f i)) (fun c ys τ H2 => Same H1 H2 ∧ H2 E = some (.lst ys) ∧ ys = VI c (fun c => -(f i c)) ∧ ∃ o, τ = [o])
        ⟨Same.new hE, upd_same, rfl, none, rfl⟩ (fun c ys τ H2 _ ⟨s2, _⟩ => s2.seq (s1.seq hb)) ?_ ?_
      · rintro c x ys τ H2 hx ⟨s2, hE2, rfl, o, rfl⟩
        obtain ⟨hc, rfl⟩ := VI_inv hx
        refine ⟨_, rfl, _, rfl, hE2, small (by rw [VI_len]; omega), s2.turn hE, upd_same, ?_, _, rfl⟩
        rw [VI_succ]
      · rintro ys τ H2 ⟨s2, hE2, rfl, _⟩
        rw [VI_len] at hE2
        refine ⟨_, rfl, _, rfl, D, _, _, i, rfl, rfl, s2 _ _ R.at, ix i hi, ?_⟩
        refine ⟨_, rfl, k D _ R.free ((s1.trans s2).turn R.free) (fin s2 (by simpa using lm) fun r hr => ?_)⟩
        rw [List.getElem?_set]
        by_cases e : i = r
        · subst e
          rw [if_pos rfl, if_pos (by omega)]
          refine ⟨E, rfl, (fun z => by rw [z, R.at] at hE; cases hE), s1.free hE, ?_⟩
          rw [hE2]
          congr 2
          refine VI_congr fun c _ => ?_
          simp [tnF]
        · rw [if_neg e]
          obtain ⟨b', e1, e2, e3, e4⟩ := old r hr
          refine ⟨b', e1, e2, e3, ?_⟩
          have e5 : tnF (.mi i) f r = f r := by funext c; simp [tnF, Ne.symm e]
          rw [e5]
          exact s2 _ _ e4
    | sw i j =>
      obtain ⟨hi, hj, hij⟩ := hok
      obtain ⟨ta, vs, rfl, hT, rT⟩ := hu
      obtain ⟨_, _, rfl, rfl, _, _, rfl, rfl, _, _, rfl, rfl, rfl⟩ := rT
      have hT1 : SqT K H1 ta [V.str "swap", V.int i, V.int j] := s1.seqT hT
      obtain ⟨bi, ebi, hbi⟩ := row i hi
      obtain ⟨bj, ebj, hbj⟩ := row j hj
      refine ⟨_, rfl, ta, _, _, _, rfl, rfl, hT1, rfl, ?_⟩
      refine ⟨_, rfl, ta, _, _, _, rfl, rfl, hT1, rfl, rfl, _, rfl, ?_⟩
      refine ifN (by decide +kernel) ?_
      refine ⟨_, rfl, ta, _, _, _, rfl, rfl, hT1, rfl, rfl, _, rfl, ?_⟩
      refine ifP (by decide +kernel) ?_
      refine ⟨_, rfl, _, rfl, ta, _, _, _, rfl, rfl, hT1, rfl, a, us, _, _, rfl, rfl, s1.seq hq, atI_nat ebj, bj, _, rfl, .inl (s1.seq hbj), fun E hE => ?_⟩
      have s2 : Same H1 (upd H1 E (.lst (VI w (f j)))) := Same.new hE
      have nED : E ≠ D := fun z => by rw [z, R.at] at hE; cases hE
      refine ⟨_, rfl, _, rfl, D, _, _, i, rfl, rfl, s2 _ _ R.at, ix i hi, ?_⟩
      have s3 : Same H (upd (upd H1 E (.lst (VI w (f j)))) D (.lst ((as.map V.ref).set i (.ref E)))) := (s1.trans s2).turn R.free
      refine ⟨_, rfl, _, rfl, a, us, _, _, rfl, rfl, s3.seq hq, atI_nat ebi, bi, _, rfl, .inl (s3.seq hbi), fun G hG => ?_⟩
      have s4 : Same (upd (upd H1 E (.lst (VI w (f j)))) D (.lst ((as.map V.ref).set i (.ref E)))) (upd (upd (upd H1 E (.lst (VI w (f j)))) D (.lst ((as.map V.ref).set i (.ref E)))) G (.lst (VI w (f i)))) := Same.new hG
      have hD3 : (upd (upd H1 E (.lst (VI w (f j)))) D (.lst ((as.map V.ref).set i (.ref E)))) D = some (.lst ((as.map V.ref).set i (.ref E))) := upd_same
      have nGD : G ≠ D := fun z => by rw [z, hD3] at hG; cases hG
      have hGn : H G = none := s3.free hG
      refine ⟨_, rfl, _, rfl, ta, _, _, _, rfl, rfl, (s3.trans s4).seqT hT, rfl, D, _, _, j, rfl, rfl, s4 _ _ hD3, by rw [List.length_set]; exact ix j hj, ?_⟩
      refine ⟨_, rfl, k D _ R.free ((s3.trans s4).turn R.free) ?_⟩
      have up : ∀ b q, b ≠ D → (upd H1 E (.lst (VI w (f j)))) b = some q → (upd (upd (upd H1 E (.lst (VI w (f j)))) D (.lst ((as.map V.ref).set i (.ref E)))) G (.lst (VI w (f i)))) b = some q := fun b q n e => s4 _ _ (by rw [upd_ne n]; exact e)
      refine dT_mk (us := ((as.map V.ref).set i (.ref E)).set j (.ref G)) (.of ?_) (by simpa using lm) fun r hr => ?_
      · rw [hide_no (fun z => z R.free)]; exact upd_same
      · have key : ∀ b q, b ≠ D → H b = none → (upd (upd (upd H1 E (.lst (VI w (f j)))) D (.lst ((as.map V.ref).set i (.ref E)))) G (.lst (VI w (f i)))) b = some (.lst q) → SqL K (hide (upd (upd (upd (upd H1 E (.lst (VI w (f j)))) D (.lst ((as.map V.ref).set i (.ref E)))) G (.lst (VI w (f i)))) D (.lst (((as.map V.ref).set i (.ref E)).set j (.ref G)))) fun a => H a ≠ none) b q := fun b q n1 n2 e => .of (by rw [hide_no (fun z => z n2), upd_ne n1]; exact e)
        rw [List.getElem?_set, List.length_set]
        by_cases e : j = r
        · subst e
          rw [if_pos rfl, if_pos (by omega)]
          have e5 : tnF (.sw i j) f j = f i := by funext c; simp [tnF]
          rw [e5]
          exact ⟨G, rfl, key G _ nGD hGn upd_same⟩
        · rw [if_neg e, List.getElem?_set]
          by_cases e2 : i = r
          · subst e2
            rw [if_pos rfl, if_pos (by omega)]
            have e5 : tnF (.sw i j) f i = f j := by funext c; simp [tnF, hij]
            rw [e5]
            exact ⟨E, rfl, key E _ nED (s1.free hE) (up E _ nED upd_same)⟩
          · rw [if_neg e2]
            obtain ⟨b', g1, g2, g3, g4⟩ := old r hr
            have e5 : tnF (.sw i j) f r = f r := by funext c; simp [tnF, Ne.symm e, Ne.symm e2]
            rw [e5]
            exact ⟨b', g1, key b' _ g2 g3 (up b' _ g2 (s2 _ _ g4))⟩
    | ad i j n =>
      obtain ⟨hi, hj, hij⟩ := hok
      obtain ⟨ta, vs, rfl, hT, rT⟩ := hu
      obtain ⟨_, _, rfl, rfl, _, _, rfl, rfl, _, _, rfl, rfl, _, _, rfl, rfl, rfl⟩ := rT
      have hT1 : SqT K H1 ta [V.str "add", V.int i, V.int j, V.int n] := s1.seqT hT
      obtain ⟨bi, ebi, hbi⟩ := row i hi
      obtain ⟨bj, ebj, hbj⟩ := row j hj
      refine ⟨_, rfl, ta, _, _, _, rfl, rfl, hT1, rfl, ?_⟩
      refine ⟨_, rfl, ta, _, _, _, rfl, rfl, hT1, rfl, rfl, _, rfl, ?_⟩
      refine ifN (by decide +kernel) ?_
      refine ⟨_, rfl, ta, _, _, _, rfl, rfl, hT1, rfl, rfl, _, rfl, ?_⟩
      refine ifN (by decide +kernel) ?_
      refine ⟨_, rfl, _, rfl, a, us, _, _, rfl, rfl, s1.seq hq, atI_nat ebi, _, rfl, _, rfl, ta, _, _, _, rfl, rfl, hT1, rfl, a, us, _, _, rfl, rfl, s1.seq hq, atI_nat ebj, bi, bj, rfl, ⟨_, s1.seq hbi⟩, ⟨_, s1.seq hbj⟩, fun E hE => ?_⟩
      refine comp_zip0 (K := K) (a := bi) (b := bj) (xs := VI w (f i)) (ys := VI w (f j)) (n := w) (by rw [VI_len, VI_len, Nat.min_self]) (fun c ys τ H2 => Same H1 H2 ∧ H2 E = some (.lst ys) ∧ ys = VI c (fun c => f i c + n * f j c) ∧ ∃ o1 o2, τ = [o1, o2, some (.ref ta)])
        ⟨Same.new hE, upd_same, rfl, none, none, rfl⟩ (fun c ys τ H2 _ ⟨s2, _⟩ => ⟨s2.seq (s1.seq hbi), s2.seq (s1.seq hbj)⟩) ?_ ?_
      · rintro c x y ys τ H2 pr hx hy ⟨s2, hE2, rfl, o1, o2, rfl⟩ hpr
        obtain ⟨hc, rfl⟩ := VI_inv hx
        obtain ⟨_, rfl⟩ := VI_inv hy
        have sp : Same H2 (upd H2 pr (.tup [.int (f i c), .int (f j c)])) := Same.new hpr
        refine ⟨pr, _, rfl, .of upd_same, rfl, _, _, rfl, _, _, rfl, rfl, ?_⟩
        refine ⟨_, rfl, _, rfl, ta, _, _, _, rfl, rfl, (s2.trans sp).seqT hT1, rfl, _, rfl, _, _, rfl, rfl, mulok bt (bf j c) (by omega), _, _, rfl, rfl, ?_⟩
        refine ⟨sp _ _ hE2, small (by rw [VI_len]; omega), (s2.trans sp).turn hE, upd_same, ?_, _, _, rfl⟩
        rw [VI_succ]
      · rintro ys τ H2 ⟨s2, hE2, rfl, _⟩
        refine ⟨_, rfl, _, rfl, D, _, _, i, rfl, rfl, s2 _ _ R.at, ix i hi, ?_⟩
        refine ⟨_, rfl, k D _ R.free ((s1.trans s2).turn R.free) (fin s2 (by simpa using lm) fun r hr => ?_)⟩
        rw [List.getElem?_set]
        by_cases e : i = r
        · subst e
          rw [if_pos rfl, if_pos (by omega)]
          refine ⟨E, rfl, (fun z => by rw [z, R.at] at hE; cases hE), s1.free hE, ?_⟩
          rw [hE2]
          congr 2
          refine VI_congr fun c _ => ?_
          simp [tnF]
        · rw [if_neg e]
          obtain ⟨b', e1, e2, e3, e4⟩ := old r hr
          refine ⟨b', e1, e2, e3, ?_⟩
          have e5 : tnF (.ad i j n) f r = f r := by funext c; simp [tnF, Ne.symm e]
          rw [e5]
          exact s2 _ _ e4
abbrev s_is_table : Stmt := top 10
theorem sc_is_table : FnScope ["thing", "width"] ["thing", "width"] (defScope s_is_table) := ⟨rfl, rfl, rfl, by decide +kernel, rfl, by decide +kernel, by decide +kernel⟩
theorem ok_is_table {f : Addr} {fd : FuncData} (F : Fun K "is_table" "is_table" s_is_table f fd) (T : Txt K mg C_NoTurn C_Lines C_Turner) (h_is_list_of_wholes : Has P w K mg base "is_list_of_wholes" ["thing", "many"] 2 (sp_is_list_of_wholes K)) : FnOk P w K mg base CX0 3 f fd ["thing", "width"] (sp_is_table K) := by
  refine F.ok sc_is_table (fun vs H Q E h => ?_) (fun cdv A outer s H vs Q E hr h => ?_)
  · obtain ⟨v, h, w, f, rfl, hv, hh, hw, k⟩ := h
    rfl
  · obtain ⟨v, h, w, f, rfl, hv, hh, hw, k⟩ := h
    obtain ⟨t_MOST_ROWS, c_MOST_ROWS⟩ := T.x_MOST_ROWS
    refine ⟨_, (pss_cons (ps_if (PW.pt (pw_or (pt_not (pt_val (pe_callB (kcall_isinst (K := K)) (by rfl) T.n_isinstance boot_isinstanceB (pa_cons (pv 0) (pa_cons (pe_bltn (v := .ty "list") rfl T.n_list boot_listT rfl) pa_nil))))) (pw_or1 (pt_cmpR op_gt (pe_callB (kcall_len_seq (K := K)) (by rfl) T.n_len PySem.boot_len (pa_cons (pv 0) pa_nil)) (pe_glob (v := .int 40) (by rfl) c_MOST_ROWS ⟨_, rfl⟩) (nomark _))))) (pss_one (ps_ret pe_bl)) pss_nil)
      (pss_one (ps_ret (pe_callB (kcall_allB (K := K) (by rfl)) (by rfl) T.n_all boot_allB (pa_cons (pe_comp (N' := ["row", "width"]) (cap := [none, some 1]) (by rfl) (by kernel_rfl) (kpi_list (K := K) (pv 0)) (fun _ _ _ _ => (pg_name (i := 0) ndc_0 (by rfl) (by first | exact Or.inl rfl | exact Or.inr rfl))) (fun _ _ _ _ => pts_nil) (fun _ _ _ _ => (pe_callH h_is_list_of_wholes hr (by rfl) (pa_cons (pv 0) (pa_cons (pv 1) pa_nil))))) pa_nil))))), ?_⟩
    obtain ⟨a, us, rfl, hq, hul, hrow⟩ := dT_sq hv
    refine ⟨_, rfl, .ref a, "list", dT h w f, rfl, .inr (.inr (.inr (.inr (.inl rfl)))), hv, _, rfl, ?_⟩
    refine ifN (by simp [isD, dT]) ?_
    refine ⟨_, rfl, a, _, rfl, .inl hq, _, _, rfl, rfl, _, rfl, ?_⟩
    refine ifN (by simp; omega) ?_
    refine ⟨_, rfl, a, rfl, ⟨_, hq⟩, fun D hD => ?_⟩
    refine comp_list0 (K := K) (a := a) (xs := us) (fun i ys τ H1 => Same H H1 ∧ H1 D = some (.lst ys) ∧ ys = (List.replicate i true).map V.bl ∧ ∃ o, τ = [o, some (.int w)])
      ⟨Same.new hD, upd_same, rfl, none, rfl⟩ (fun i ys τ H1 _ ⟨s1, _⟩ => s1.seq hq) ?_ ?_
    · rintro i x ys τ H1 hx ⟨s1, hD1, rfl, o, rfl⟩
      obtain ⟨hi, b, rfl, hb⟩ := hrow i _ hx
      refine ⟨_, rfl, _, rfl, b, w, f i, rfl, s1.seq hb, hw, fun H2 s2 => ?_⟩
      refine ⟨s2 _ _ hD1, small (by simp; omega), (s1.trans s2).turn hD, upd_same, ?_, _, rfl⟩
      rw [List.replicate_succ', List.map_append]
      rfl
    · rintro ys τ H1 ⟨s1, hD1, rfl, _⟩
      refine ⟨D, List.replicate us.length true, rfl, .of hD1, ?_⟩
      rw [show (List.replicate us.length true).all id = true by simp]
      exact k H1 s1
abbrev s_Lines_turn : Stmt := inClass (top 21) 1
theorem sc_Lines_turn : FnScope ["self", "turn"] ["self", "turn"] (defScope s_Lines_turn) := ⟨rfl, rfl, rfl, by decide +kernel, rfl, by decide +kernel, by decide +kernel⟩
theorem ok_Lines_turn {f : Addr} {fd : FuncData} (F : Fun K "turn" "Lines.turn" s_Lines_turn f fd) (T : Txt K mg C_NoTurn C_Lines C_Turner) (h_turned : Has P w K mg base "turned" ["lines", "turn"] 2 (sp_turned K)) (h_across : Has P w K mg base "across" ["turn"] 1 (sp_across K)) : FnOk P w K mg base CX0 3 f fd ["self", "turn"] (spW_Lines_turn K C_Lines C_Turner) := by
  refine F.ok sc_Lines_turn (fun vs H Q E h => ?_) (fun cdv A outer s H vs Q E hr h => ?_)
  · obtain ⟨p, u, Z, m, B, t, g, g', rfl, hL, zp, hz, hu, hok, bt, hB3, hB, hm, k⟩ := h
    rfl
  · obtain ⟨p, u, Z, m, B, t, g, g', rfl, hL, zp, hz, hu, hok, bt, hB3, hB, hm, k⟩ := h
    refine ⟨_, (pss_cons (kps_fld (K := K) (pv 0) (pe_callH h_turned hr (by rfl) (pa_cons (kpe_fld (K := K) (pv 0)) (pa_cons (pv 1) pa_nil))))
      (pss_one (kps_fld (K := K) (pv 0) (pe_callH h_turned hr (by rfl) (pa_cons (kpe_fld (K := K) (pv 0)) (pa_cons (pe_callH h_across hr (by rfl) (pa_cons (pv 1) pa_nil)) pa_nil)))))), ?_⟩
    obtain ⟨r, b, ⟨dx, fs, hp, l1, l2, l3, l4⟩, h2, h3, b1, b2⟩ := hL.ex
    refine ⟨_, rfl, p, C_Lines, dx, fs, _, rfl, hp, T.cl_Lines, T.na_Lines_rows, l1, _, rfl, r, u, Z, m, m, B, g, t, rfl, h2, hz, hu, hok, b1, bt.mono hB3, hB, hm, hm, fun D1 H1 hD1 s1 r1 => ?_⟩
    have hp1 := s1 _ _ hp
    refine ⟨_, rfl, p, C_Lines, dx, fs, rfl, hp1, T.cl_Lines, T.na_Lines_rows, by omega, ?_⟩
    have sx1 : SameX p H (upd H1 p (.ins C_Lines dx (putF "rows" (.ref D1) fs))) := SameX.upd (SameX.of s1)
    have hd1 : Same (hide H Z) (hide (upd H1 p (.ins C_Lines dx (putF "rows" (.ref D1) fs))) Z) := hide_mono fun a o n e => sx1 a o (fun z => n (z ▸ zp)) e
    have hd1' : Same (hide H1 Z) (hide (upd H1 p (.ins C_Lines dx (putF "rows" (.ref D1) fs))) Z) := hide_mono fun a o n e => by
      have hap : a ≠ p := fun z => n (by rw [z]; exact zp)
      rw [upd_ne hap]; exact e
    have hz1 : ∀ a, Z a → (upd H1 p (.ins C_Lines dx (putF "rows" (.ref D1) fs))) a ≠ none := fun a ha e => by
      by_cases hap : a = p
      · rw [hap, upd_same] at e; cases e
      · rw [upd_ne hap] at e; exact hz a ha (s1.free e)
    have hu1 : Rep K (upd H1 p (.ins C_Lines dx (putF "rows" (.ref D1) fs))) u (dTn t) := by
      refine Rep.t ⟨fun b xs e => ?_, fun b o u e => ?_⟩ (by cases t <;> rfl) hu
      · exact sx1 b _ (ne_of e hp (by intro z; cases z)) e
      · exact sx1 b _ (ne_of e hp (by intro z; cases z)) e
    have keep1 : ∀ a, H a ≠ none → (upd H1 p (.ins C_Lines dx (putF "rows" (.ref D1) fs))) a ≠ none := fun a ha e => by
      by_cases hap : a = p
      · rw [hap, upd_same] at e; cases e
      · rw [upd_ne hap] at e; exact ha (s1.free e)
    have hl1 : (putF "rows" (V.ref D1) fs).length = fs.length := putF_len l1
    have hp2 : (upd H1 p (.ins C_Lines dx (putF "rows" (.ref D1) fs))) p = some (.ins C_Lines dx (putF "rows" (.ref D1) fs)) := upd_same
    generalize hH2 : upd H1 p (.ins C_Lines dx (putF "rows" (.ref D1) fs)) = H2 at sx1 hd1 hd1' hz1 hu1 keep1 hp2
    refine ⟨_, rfl, p, C_Lines, dx, _, _, rfl, hp2, T.cl_Lines, T.na_Lines_backs, (by rw [lookup_putF, if_neg (by decide +kernel)]; exact l2), _, rfl, u, t, rfl, hu1, fun u2 H3 s3 hu3 => ?_⟩
    have hz3 : ∀ a, Z a → H3 a ≠ none := fun a ha e => hz1 a ha (s3.free e)
    refine ⟨b, u2, Z, m, m, B, g', tnA t, rfl, Rep.same (hd1.trans (same_hid s3)) h3, hz3, hu3, okTn_across hok, b2, bt.across.mono hB3, hB, hm, hm, fun D2 H4 hD2 s4 r4 => ?_⟩
    have hp4 := (s3.trans s4) _ _ hp2
    refine ⟨_, rfl, p, C_Lines, dx, _, rfl, hp4, T.cl_Lines, T.na_Lines_backs, by omega, ?_⟩
    have hl2 : (putF "backs" (V.ref D2) (putF "rows" (V.ref D1) fs)).length = (putF "rows" (V.ref D1) fs).length := putF_len (x := b) (by rw [lookup_putF, if_neg (by decide +kernel)]; exact l2)
    have hd4 : Same (hide H4 Z) (hide (upd H4 p (.ins C_Lines dx (putF "backs" (.ref D2) (putF "rows" (.ref D1) fs)))) Z) := hide_mono fun a o n e => by
      have hap : a ≠ p := fun z => n (by rw [z]; exact zp)
      rw [upd_ne hap]; exact e
    refine k _ (SameX.upd (sx1.trans (SameX.of (s3.trans s4)))) ⟨.ref D1, .ref D2, ⟨dx, _, upd_same, ?_, (by ((repeat (first | rw [lookup_putF, if_pos rfl] | rw [lookup_putF, if_neg (by decide +kernel)])) <;> first | rfl | assumption)), ?_, by omega⟩, Rep.same ((hd1'.trans (same_hid (s3.trans s4))).trans hd4) r1, Rep.same hd4 r4, b1.turn3 bt, b2.turn3 bt.across⟩ ?_
    · rw [lookup_putF, if_neg (by decide +kernel), lookup_putF, if_pos rfl]
    · rw [lookup_putF, if_neg (by decide +kernel), lookup_putF, if_neg (by decide +kernel)]; exact l3
    · intro a ha e
      by_cases hap : a = p
      · rw [hap, upd_same] at e; cases e
      · rw [upd_ne hap] at e; exact keep1 a ha ((s3.trans s4).free e)
abbrev s_are_two_lines : Stmt := top 25
theorem sc_are_two_lines : FnScope ["one", "other", "many"] ["one", "other", "many"] (defScope s_are_two_lines) := ⟨rfl, rfl, rfl, by decide +kernel, rfl, by decide +kernel, by decide +kernel⟩
theorem ok_are_two_lines {f : Addr} {fd : FuncData} (F : Fun K "are_two_lines" "are_two_lines" s_are_two_lines f fd) (T : Txt K mg C_NoTurn C_Lines C_Turner) (h_is_whole_below : Has P w K mg base "is_whole_below" ["thing", "bound"] 2 (sp_is_whole_below K)) : FnOk P w K mg base CX0 3 f fd ["one", "other", "many"] (sp_are_two_lines K) := by
  refine F.ok sc_are_two_lines (fun vs H Q E h => ?_) (fun cdv A outer s H vs Q E hr h => ?_)
  · obtain ⟨i, j, m, rfl, hi, hj, hij, k⟩ := h
    rfl
  · obtain ⟨i, j, m, rfl, hi, hj, hij, k⟩ := h
    refine ⟨_, (pss_one (ps_ret (pe_and (pe_callH h_is_whole_below hr (by rfl) (pa_cons (pv 0) (pa_cons (pv 2) pa_nil))) (pe_and (pe_callH h_is_whole_below hr (by rfl) (pa_cons (pv 1) (pa_cons (pv 2) pa_nil))) (pe_one (pe_cmpR op_ne (pv 0) (pv 1) (nomark _))))))), ?_⟩
    have b1 : belowD (.int (i : Int)) (m : Int) = true := by show (decide (0 ≤ (i : Int)) && decide ((i : Int) < m)) = true; simp; omega
    have b2 : belowD (.int (j : Int)) (m : Int) = true := by show (decide (0 ≤ (j : Int)) && decide ((j : Int) < m)) = true; simp; omega
    refine ⟨_, rfl, _, rfl, _, .int i, m, rfl, rfl, _, rfl, ?_⟩
    refine ifP b1 ?_
    refine ⟨_, rfl, _, rfl, _, .int j, m, rfl, rfl, _, rfl, ?_⟩
    refine ifP b2 ?_
    refine ⟨_, rfl, _, rfl, rfl, ?_⟩
    rw [show (!decide (V.int (i : Int) = V.int (j : Int))) = true from neI (by omega)]
    exact k
abbrev s_Turner_papers : Stmt := inClass (top 27) 8
theorem sc_Turner_papers : FnScope ["self", "left_back", "right"] ["self"] (defScope s_Turner_papers) := ⟨rfl, rfl, rfl, by decide +kernel, rfl, by decide +kernel, by decide +kernel⟩
theorem nd_Turner_papers : (["self", "left_back", "right"] : List Str).Nodup := by decide +kernel

theorem ok_Turner_papers {f : Addr} {fd : FuncData} (F : Fun K "papers" "Turner.papers" s_Turner_papers f fd) (T : Txt K mg C_NoTurn C_Lines C_Turner) (h_flipped : Has P w K mg base "flipped" ["table", "width"] 2 (sp_flipped K)) (h_copied : Has P w K mg base "copied" ["table"] 1 (sp_copied K)) : FnOk P w K mg base CX0 3 f fd ["self"] (spW_papers K C_Lines C_Turner) := by
  refine F.ok sc_Turner_papers (fun vs H Q E h => ?_) (fun cdv A outer s H vs Q E hr h => ?_)
  · obtain ⟨p, L, R, dn, Z, h, w, B, S, ds, rfl, x, k⟩ := h
    rfl
  · obtain ⟨p, L, R, dn, Z, h, w, B, S, ds, rfl, x, k⟩ := h
    refine ⟨_, (pss_cons (ps_set (i := 1) nd_Turner_papers (by rfl) (by first | exact Or.inl rfl | exact Or.inr rfl) (pe_callH h_flipped hr (by rfl) (pa_cons (kpe_fld (K := K) (kpe_fld (K := K) (pv 0))) (pa_cons (pe_callB (kcall_len_seq (K := K)) (by rfl) T.n_len PySem.boot_len (pa_cons (kpe_fld (K := K) (pv 0)) pa_nil)) pa_nil))))
      (pss_cons (ps_set (i := 2) nd_Turner_papers (by rfl) (by first | exact Or.inl rfl | exact Or.inr rfl) (pe_callH h_flipped hr (by rfl) (pa_cons (kpe_fld (K := K) (kpe_fld (K := K) (pv 0))) (pa_cons (kpe_fld (K := K) (pv 0)) pa_nil))))
      (pss_one (ps_ret (pe_tup (pa_cons (pe_callH h_copied hr (by rfl) (pa_cons (kpe_fld (K := K) (kpe_fld (K := K) (pv 0))) pa_nil)) (pa_cons (pv 1) (pa_cons (pv 2) (pa_cons (pe_callH h_copied hr (by rfl) (pa_cons (kpe_fld (K := K) (kpe_fld (K := K) (pv 0))) pa_nil)) pa_nil))))))))), ?_⟩
    obtain ⟨sm1, sm2, sm3⟩ := x.sm
    obtain ⟨tb, ⟨dx, fs, hp, l1, l2, l3, l4, l5, lm, l6⟩, hrep⟩ := x.ob
    obtain ⟨ta, us, rfl, hqa, hul, _⟩ := dT_sq (Rep.same hide_same hrep)
    obtain ⟨rl, bl, ⟨dxl, fsl, hl, a1, a2, a3, a4⟩, q1, q2, _⟩ := x.lf.ex
    obtain ⟨rr, br, ⟨dxr, fsr, hr', b1, b2, b3, b4⟩, q3, q4, _⟩ := x.rt.ex
    refine ⟨_, rfl, p, C_Turner, dx, fs, _, rfl, hp, T.cl_Turner, T.na_Turner_left, l3, L, C_Lines, dxl, fsl, _, rfl, hl, T.cl_Lines, T.na_Lines_backs, a2, _, rfl, p, C_Turner, dx, fs, _, rfl, hp, T.cl_Turner, T.na_Turner_table, l1, ta, us, rfl, .inl hqa, bl, h, h, S.lb, (by rw [hul] <;> rfl), Rep.same hide_same q2, by omega, by omega, fun D1 as1 H1 hl1 R1 => ?_⟩
    have s1 := R1.same
    refine ⟨_, rfl, p, C_Turner, dx, fs, _, rfl, s1 _ _ hp, T.cl_Turner, T.na_Turner_right, l4, R, C_Lines, dxr, fsr, _, rfl, s1 _ _ hr', T.cl_Lines, T.na_Lines_rows, b1, _, rfl, p, C_Turner, dx, fs, _, rfl, s1 _ _ hp, T.cl_Turner, T.na_Turner_width, l2, rr, w, w, S.r, rfl, Rep.same s1 (Rep.same hide_same q3), by omega, by omega, fun D2 as2 H2 hl2 R2 => ?_⟩
    have s2 := s1.trans R2.same
    refine ⟨_, rfl, p, C_Turner, dx, fs, _, rfl, s2 _ _ hp, T.cl_Turner, T.na_Turner_left, l3, L, C_Lines, dxl, fsl, _, rfl, s2 _ _ hl, T.cl_Lines, T.na_Lines_rows, a1, rl, h, h, S.l, rfl, Rep.same s2 (Rep.same hide_same q1), by omega, fun D3 as3 H3 hl3 R3 => ?_⟩
    have s3 := s2.trans R3.same
    refine ⟨_, rfl, _, rfl, _, rfl, p, C_Turner, dx, fs, _, rfl, s3 _ _ hp, T.cl_Turner, T.na_Turner_right, l4, R, C_Lines, dxr, fsr, _, rfl, s3 _ _ hr', T.cl_Lines, T.na_Lines_backs, b2, br, w, w, S.rb, rfl, Rep.same s3 (Rep.same hide_same q4), by omega, fun D4 as4 H4 hl4 R4 => ?_⟩
    exact ⟨smallE (by simp), fun t ht => k t D1 D2 D3 D4 as1 as2 as3 as4 H1 H2 H3 H4 _ hl1 R1 hl2 R2 hl3 R3 hl4 R4 ht rfl⟩
abbrev s_L_turned : Stmt := top 41
theorem sc_L_turned : FnScope ["_law_table", "_law_width", "_law_of_rows", "_law_turn"] ["_law_table", "_law_width", "_law_of_rows", "_law_turn"] (defScope s_L_turned) := ⟨rfl, rfl, rfl, by decide +kernel, rfl, by decide +kernel, by decide +kernel⟩
theorem ok_L_turned {f : Addr} {fd : FuncData} (F : Fun K "_law_turned" "_law_turned" s_L_turned f fd) (T : Txt K mg C_NoTurn C_Lines C_Turner) (h_L_flip : Has P w K mg base "_law_flip" ["_law_table", "_law_width"] 1 (sp_L_flip K)) (h_L_rows_turned : Has P w K mg base "_law_rows_turned" ["_law_table", "_law_turn"] 2 (sp_L_rows_turned K)) : FnOk P w K mg base CX0 3 f fd ["_law_table", "_law_width", "_law_of_rows", "_law_turn"] (sp_L_turned K) := by
  refine F.ok sc_L_turned (fun vs H Q E h => ?_) (fun cdv A outer s H vs Q E hr h => ?_)
  · obtain ⟨v, u, h, w, B, f, b, t, rfl, hv, hu, hok, bf, bt, hB, hh, hw, k⟩ := h
    rfl
  · obtain ⟨v, u, h, w, B, f, b, t, rfl, hv, hu, hok, bf, bt, hB, hh, hw, k⟩ := h
    refine ⟨_, (pss_cons (ps_if (pt_val (pv 2)) (pss_one (ps_ret (pe_callH h_L_rows_turned hr (by rfl) (pa_cons (pv 0) (pa_cons (pv 3) pa_nil))))) pss_nil)
      (pss_one (ps_ret (pe_callH h_L_flip hr (by rfl) (pa_cons (pe_callH h_L_rows_turned hr (by rfl) (pa_cons (pe_callH h_L_flip hr (by rfl) (pa_cons (pv 0) (pa_cons (pv 1) pa_nil))) (pa_cons (pv 3) pa_nil))) (pa_cons (pe_callB (kcall_len_seq (K := K)) (by rfl) T.n_len PySem.boot_len (pa_cons (pv 0) pa_nil)) pa_nil)))))), ?_⟩
    refine ⟨_, rfl, _, rfl, ?_⟩
    cases b with
    | true =>
      refine ifP rfl ?_
      exact ⟨_, rfl, _, rfl, v, u, h, w, B, f, t, rfl, hv, hu, hok, bf, bt, hB, hh, hw, k⟩
    | false =>
      refine ifN (by decide) ?_
      refine ⟨_, rfl, _, rfl, v, h, w, f, rfl, hv, by omega, by omega, fun D1 as1 H1 hl1 R1 => ?_⟩
      refine ⟨_, rfl, .ref D1, u, w, h, B, (fun i j => f j i), t, rfl, R1.rep hl1, Rep.same R1.same hu, hok, fun i j => bf j i, bt, hB, hw, hh, fun D2 H2 n2 s2 r2 => ?_⟩
      have s12 := R1.same.trans s2
      obtain ⟨a, us, rfl, hq, hul, hrow⟩ := dT_sq hv
      refine ⟨_, rfl, a, us, rfl, .inl (s12.seq hq), .ref D2, w, h, tnF t (fun i j => f j i), (by rw [hul] <;> rfl), Rep.same hide_same r2, by omega, by omega, fun D3 as3 H3 hl3 R3 => ?_⟩
      exact k D3 H3 (s12.free R3.free) (s12.trans R3.same) (R3.hid hl3 fun a z => Kp.of s12 a z)
abbrev s_L_now_is : Stmt := top 44
theorem sc_L_now_is : FnScope ["_law_turner", "_law_states", "_law_width", "_law_held", "_law_found", "_law_count"] ["_law_turner", "_law_states", "_law_width", "_law_held"] (defScope s_L_now_is) := ⟨rfl, rfl, rfl, by decide +kernel, rfl, by decide +kernel, by decide +kernel⟩
theorem nd_L_now_is : (["_law_turner", "_law_states", "_law_width", "_law_held", "_law_found", "_law_count"] : List Str).Nodup := by decide +kernel

theorem ok_L_now_is {f : Addr} {fd : FuncData} (F : Fun K "_law_now_is" "_law_now_is" s_L_now_is f fd) (T : Txt K mg C_NoTurn C_Lines C_Turner) (hm_Turner_now : HasM P w K mg base C_Turner "now" ["self"] 2 (spW_now K C_Lines C_Turner)) (hm_Turner_many : HasM P w K mg base C_Turner "many" ["self"] 1 (spW_many K C_Lines C_Turner)) (h_L_is_table : Has P w K mg base "_law_is_table" ["_law_found", "_law_height", "_law_width"] 2 (sp_L_is_table K)) (h_L_whole : Has P w K mg base "_law_whole" ["_law_found"] 1 (sp_L_whole K)) (h_L_copy : Has P w K mg base "_law_copy" ["_law_table"] 1 (spW_copy K)) : FnOk P w K mg base CX0 3 f fd ["_law_turner", "_law_states", "_law_width", "_law_held"] (spW_now_is K C_Lines C_Turner) := by
  refine F.ok sc_L_now_is (fun vs H Q E h => ?_) (fun cdv A outer s H vs Q E hr h => ?_)
  · obtain ⟨p, L, R, dn, st, hd, Z, W, h, w, B, S, ds, us, ps, fs, g, hs, rfl, x, hst, rst, hds, hfg, hhd, hW, hWd, rps, hhs, k⟩ := h
    rfl
  · obtain ⟨p, L, R, dn, st, hd, Z, W, h, w, B, S, ds, us, ps, fs, g, hs, rfl, x, hst, rst, hds, hfg, hhd, hW, hWd, rps, hhs, k⟩ := h
    have hu8 : (A.deeper (PyProof.Rows.envOfC "_law_now_is" (defScope s_L_now_is) s.heap.objs.size f cdv)).units + 8 < cLine := by have := hr.units; omega
    refine ⟨_, (pss_cons (ps_set (i := 4) nd_L_now_is (by rfl) (by first | exact Or.inl rfl | exact Or.inr rfl) (pe_methH0 (pv 0) T.cl_Turner hm_Turner_now hr))
      (pss_cons (ps_set (i := 5) nd_L_now_is (by rfl) (by first | exact Or.inl rfl | exact Or.inr rfl) (pe_methH0 (pv 0) T.cl_Turner hm_Turner_many hr))
      (pss_cons (ps_if (PW.pt (pw_or (pt_not (pt_val (pe_callH h_L_is_table hr (by rfl) (pa_cons (pv 4) (pa_cons (pe_callB (kcall_len_seq (K := K)) (by rfl) T.n_len PySem.boot_len (pa_cons (pe_ix (kix_list (K := K)) (pv 1) (pe_un un_neg pe_int) (fun _ _ => rfl)) pa_nil)) (pa_cons (pv 2) pa_nil)))))) (pw_or1 (pt_not (pt_val (pe_callH h_L_whole hr (by rfl) (pa_cons (pv 5) pa_nil))))))) (pss_one (ps_ret pe_bl)) pss_nil)
      (pss_cons (ps_if (PW.pt (pw_or (pt_cmpR (kop_neD (K := K) hu8) (pv 4) (pe_ix (kix_list (K := K)) (pv 1) (pe_un un_neg pe_int) (fun _ _ => rfl)) (nomark _)) (pw_or1 (pt_cmpR op_ne (pv 5) (pe_op op_sub (pe_callB (kcall_len_seq (K := K)) (by rfl) T.n_len PySem.boot_len (pa_cons (pv 1) pa_nil)) pe_int) (nomark _))))) (pss_one (ps_ret pe_bl)) pss_nil)
      (pss_cons (ps_if (pt_cmpR op_eq (pe_op op_mod (pv 5) pe_int) pe_int (nomark _)) (pss_one (ps_expr (kpe_bm (K := K) PySem.F.plainAttrs_list PySem.F.slot_list_append PySem.F.type_list_append mt_append (pv 3) (pa_cons (pe_tup (pa_cons (pv 4) (pa_cons (pe_callH h_L_copy hr (by rfl) (pa_cons (pv 4) pa_nil)) pa_nil))) pa_nil)))) (pss_one (ps_expr (kpe_bm (K := K) PySem.F.plainAttrs_list PySem.F.slot_list_append PySem.F.type_list_append mt_append (pv 4) (pa_cons (pe_lst (pa_cons (pv 5) pa_nil)) pa_nil)))))
      (pss_one (ps_ret pe_bl))))))), ?_⟩
    obtain ⟨tb, ⟨dx, fls, hp, l1, l2, l3, l4, l5, ⟨m1, m2, m3, m4, m5, m6, m7, m8⟩, l6⟩, hrep⟩ := x.ob
    obtain ⟨sm1, sm2, sm3⟩ := x.sm
    have hul : us.length = fs.length + 1 := by have := rst.length; simpa using this
    obtain ⟨us0, y, rfl, rs0, ry⟩ := reps_snoc (by rw [List.map_append] at rst; exact rst)
    have hlast : atI (us0 ++ [y]) (-1) = some y := at_last us0 y
    refine tSeq_cut (fun σ' H' => ∃ D as, σ' = [some (.ref p), some (.ref st), some (.int (w : Int)), some (.ref hd), some (.ref D), none] ∧ as.length = h ∧ Rows H H' D as w S.f) ?_ fun key => ?_
    rotate_left
    · exact ⟨_, rfl, p, dx, fls, rfl, hp, m7, p, L, R, dn, Z, h, w, B, S, ds, rfl, x, fun D as H1 hl R1 => key _ _ ⟨D, as, rfl, hl, R1⟩⟩
    rintro _ H1 ⟨D, as, rfl, hal, R1⟩
    have s1 := R1.same
    have hst1 := s1.seq hst
    have ry1 := Rep.same s1 ry
    obtain ⟨ya, ws, rfl, hya, hwl, _⟩ := dT_sq (show Rep K H1 y (dT h w g) from ry1)
    refine ⟨_, rfl, p, dx, fls, rfl, s1 _ _ hp, m6, p, L, R, dn, Z, h, w, B, S, ds, rfl, x.same s1, ?_⟩
    refine ⟨_, rfl, _, rfl, _, rfl, st, _, _, _, rfl, rfl, hst1, hlast, ya, ws, rfl, .inl hya, _, rfl, .ref D, h, w, S.f, (by rw [hwl] <;> rfl), R1.rep hal, _, rfl, ?_⟩
    refine ifN (by decide) ?_
    refine ⟨_, rfl, _, .int (ds.length : Int), rfl, rfl, _, rfl, ?_⟩
    refine ifN (by simp [wholeD, isD]) ?_
    have hrD : Rep K H1 (.ref D) (dT h w g) := by rw [← dT_congr hfg]; exact R1.rep hal
    refine ⟨_, rfl, _, rfl, _, rfl, st, _, _, _, rfl, rfl, hst1, hlast, dT h w g, dT h w g, hrD, ry1, dep_dT _ _ _, _, rfl, ?_⟩
    rw [eqD_refl]
    refine ifN (by simp) ?_
    refine ⟨_, rfl, _, rfl, st, _, rfl, .inl hst1, _, _, rfl, rfl, rfl, _, rfl, ?_⟩
    refine ifN (eqI (by omega)) ?_
    have hhd1 := s1 _ _ hhd
    have hDhd : D ≠ hd := fun z => by have := R1.free; rw [z, hhd] at this; cases this
    have hashd : ∀ c ∈ as, c ≠ hd := fun c hc z => by have := (R1.new c hc).1; rw [z, hhd] at this; cases this
    have hpl : ps.length = hs.length := by have := rps.length; simpa using this
    refine ⟨_, rfl, _, _, rfl, rfl, (by show (0 : Int) < 3; decide), rfl, _, rfl, ?_⟩
    refine ite2 (fun h1 => ?_) (fun h1 => ?_)
    · refine ⟨_, rfl, .inl ⟨rfl, _, .of hhd1⟩, _, rfl, _, rfl, .ref D, rowsOf h w S.f, rfl, (by rw [← dT_dR]; exact R1.rep hal), (by rw [rowsOf_len]; omega), fun D2 as2 H2 s2 n2 t2 nw2 => ⟨smallE (by simp), fun q hq => ?_⟩⟩
      have s3 : Same H2 (upd H2 q (.tup [.ref D, .ref D2])) := Same.new hq
      have eq3 : upd H2 q (.tup [.ref D, .ref D2]) q = some (.tup [.ref D, .ref D2]) := upd_same
      generalize upd H2 q (.tup [.ref D, .ref D2]) = H3 at s3 eq3
      have s13 := s2.trans s3
      have s03 := s1.trans s13
      refine ⟨hd, ps, _, rfl, rfl, s03 _ _ hhd, small (by omega), ?_⟩
      have q0 : H q = none := (s1.trans s2).free hq
      have qhd : q ≠ hd := fun z => by rw [z, hhd] at q0; cases q0
      have d2hd : D2 ≠ hd := fun z => by rw [z, hhd1] at n2; cases n2
      have a2hd : ∀ c ∈ as2, c ≠ hd := fun c hc z => by have := (nw2 c hc).1; rw [z, hhd1] at this; cases this
      have sx : SameX hd H (upd H3 hd (.lst (ps ++ [.ref q]))) := SameX.upd (SameX.of s03)
      refine k _ (hs ++ [rowsOf h w S.f]) _ sx upd_same ?_ (by simp)
      refine held_more hW rps (sx.hid hWd) q0 (by rw [upd_ne qhd]; exact eq3) (TabAt.hid (H0 := H) ?_ hW R1.free fun c hc => (R1.new c hc).1) (TabAt.hid (H0 := H1) ?_ (fun c hc => (fun z => hW c hc (s1.free z))) n2 fun c hc => (nw2 c hc).1)
      · exact ((R1.tab hal).same s13).put hDhd hashd
      · exact (t2.same s3).put d2hd a2hd
    · refine ⟨_, rfl, .inl ⟨rfl, _, .of R1.at⟩, _, rfl, smallE (by simp), fun n hn => ?_⟩
      have s2 : Same H1 (upd H1 n (.lst [.int (ds.length : Int)])) := Same.new hn
      refine ⟨D, _, _, rfl, rfl, s2 _ _ R1.at, small (by simp; omega), ?_⟩
      have s3 : Same H (upd (upd H1 n (.lst [.int (ds.length : Int)])) D (.lst (as.map V.ref ++ [.ref n]))) := (s1.trans s2).turn R1.free
      exact k ps hs _ (SameX.of s3) (s3 _ _ hhd) (Reps.same (same_hid s3) rps) (by omega)
abbrev s_L_undo : Stmt := top 45
theorem sc_L_undo : FnScope ["_law_one", "_law_other", "_law_size", "_law_unit"] ["_law_one", "_law_other", "_law_size"] (defScope s_L_undo) := ⟨rfl, rfl, rfl, by decide +kernel, rfl, by decide +kernel, by decide +kernel⟩
theorem nd_L_undo : (["_law_one", "_law_other", "_law_size", "_law_unit"] : List Str).Nodup := by decide +kernel

theorem ok_L_undo {f : Addr} {fd : FuncData} (F : Fun K "_law_undo" "_law_undo" s_L_undo f fd) (T : Txt K mg C_NoTurn C_Lines C_Turner) (h_L_one_by : Has P w K mg base "_law_one_by" ["_law_size"] 1 (sp_L_one_by K)) (h_L_is_table : Has P w K mg base "_law_is_table" ["_law_found", "_law_height", "_law_width"] 2 (sp_L_is_table K)) (h_L_product_by : Has P w K mg base "_law_product_by" ["_law_one", "_law_other", "_law_width"] 1 (sp_L_product_by K)) : FnOk P w K mg base CX0 3 f fd ["_law_one", "_law_other", "_law_size"] (spW_undo K) := by
  refine F.ok sc_L_undo (fun vs H Q E h => ?_) (fun cdv A outer s H vs Q E hr h => ?_)
  · obtain ⟨u, v, n, B, f1, g, rfl, hu, hv, hn, bf, bg, hB, e1, e2, k⟩ := h
    rfl
  · obtain ⟨u, v, n, B, f1, g, rfl, hu, hv, hn, bf, bg, hB, e1, e2, k⟩ := h
    have hu8 : (A.deeper (PyProof.Rows.envOfC "_law_undo" (defScope s_L_undo) s.heap.objs.size f cdv)).units + 8 < cLine := by have := hr.units; omega
    refine ⟨_, (pss_cons (ps_if (PW.pt (pw_or (pt_not (pt_val (pe_callH h_L_is_table hr (by rfl) (pa_cons (pv 0) (pa_cons (pv 2) (pa_cons (pv 2) pa_nil)))))) (pw_or1 (pt_not (pt_val (pe_callH h_L_is_table hr (by rfl) (pa_cons (pv 1) (pa_cons (pv 2) (pa_cons (pv 2) pa_nil))))))))) (pss_one (ps_ret pe_bl)) pss_nil)
      (pss_cons (ps_set (i := 3) nd_L_undo (by rfl) (by first | exact Or.inl rfl | exact Or.inr rfl) (pe_callH h_L_one_by hr (by rfl) (pa_cons (pv 2) pa_nil)))
      (pss_one (ps_ret (pe_and (pe_cmpR (kop_eqD (K := K) hu8) (pe_callH h_L_product_by hr (by rfl) (pa_cons (pv 0) (pa_cons (pv 1) (pa_cons (pv 2) pa_nil)))) (pv 3) (nomark _)) (pe_one (pe_cmpR (kop_eqD (K := K) hu8) (pe_callH h_L_product_by hr (by rfl) (pa_cons (pv 1) (pa_cons (pv 0) (pa_cons (pv 2) pa_nil)))) (pv 3) (nomark _)))))))), ?_⟩
    refine ⟨_, rfl, _, rfl, _, rfl, u, n, n, f1, rfl, hu, _, rfl, ?_⟩
    refine ifN (by decide) ?_
    refine ⟨_, rfl, _, rfl, _, rfl, v, n, n, g, rfl, hv, _, rfl, ?_⟩
    refine ifN (by decide) ?_
    refine ⟨_, rfl, n, rfl, by omega, fun D1 as1 H1 hl1 R1 => ?_⟩
    have s1 := R1.same
    refine ⟨_, rfl, _, rfl, _, rfl, u, v, n, n, n, f1, g, rfl, Rep.same s1 hu, Rep.same s1 hv, by omega, by omega, by omega, fun i k j _ _ _ => mulok (bf i k) (bg k j) (by omega), fun D2 as2 H2 hl2 R2 => ?_⟩
    have s2 := s1.trans R2.same
    have rD : Rep K H1 (.ref D1) (dT n n fun i j => if j = i then 1 else 0) := R1.rep hl1
    refine ⟨_, rfl, _, _, R2.rep hl2, Rep.same R2.same rD, dep_dT _ _ _, _, rfl, ?_⟩
    rw [dT_congr e1, show (fun i j : Nat => if j = i then (1 : Int) else 0) = dl from rfl, eqD_refl]
    refine ifP rfl ?_
    refine ⟨_, rfl, _, rfl, _, rfl, v, u, n, n, n, g, f1, rfl, Rep.same s2 hv, Rep.same s2 hu, by omega, by omega, by omega, fun i k j _ _ _ => mulok (bg i k) (bf k j) (by omega), fun D3 as3 H3 hl3 R3 => ?_⟩
    refine ⟨_, rfl, _, _, R3.rep hl3, Rep.same (R2.same.trans R3.same) rD, dep_dT _ _ _, ?_⟩
    rw [dT_congr e2, show (fun i j : Nat => if j = i then (1 : Int) else 0) = dl from rfl, eqD_refl]
    exact k H3 (s2.trans R3.same)
abbrev s_is_turn : Stmt := top 24
theorem sc_is_turn : FnScope ["thing", "many"] ["thing", "many"] (defScope s_is_turn) := ⟨rfl, rfl, rfl, by decide +kernel, rfl, by decide +kernel, by decide +kernel⟩
theorem ok_is_turn {f : Addr} {fd : FuncData} (F : Fun K "is_turn" "is_turn" s_is_turn f fd) (T : Txt K mg C_NoTurn C_Lines C_Turner) (h_is_whole_below : Has P w K mg base "is_whole_below" ["thing", "bound"] 2 (sp_is_whole_below K)) (h_are_two_lines : Has P w K mg base "are_two_lines" ["one", "other", "many"] 3 (sp_are_two_lines K)) (h_is_whole : Has P w K mg base "is_whole" ["thing"] 1 (sp_is_whole K)) : FnOk P w K mg base CX0 4 f fd ["thing", "many"] (sp_is_turn K) := by
  refine F.ok sc_is_turn (fun vs H Q E h => ?_) (fun cdv A outer s H vs Q E hr h => ?_)
  · obtain ⟨u, t, m, rfl, hu, hok, k⟩ := h
    rfl
  · obtain ⟨u, t, m, rfl, hu, hok, k⟩ := h
    refine ⟨_, (pss_cons (ps_if (PW.pt (pw_or (pt_not (pt_val (pe_callB (kcall_isinst (K := K)) (by rfl) T.n_isinstance boot_isinstanceB (pa_cons (pv 0) (pa_cons (pe_bltn (v := .ty "tuple") rfl T.n_tuple boot_tupleT rfl) pa_nil))))) (pw_or (pt_cmpR op_eq (pe_callB (kcall_len_seq (K := K)) (by rfl) T.n_len PySem.boot_len (pa_cons (pv 0) pa_nil)) pe_int (nomark _)) (pw_or1 (pt_not (pt_val (pe_callB (kcall_isinst (K := K)) (by rfl) T.n_isinstance boot_isinstanceB (pa_cons (pe_ix (kix_tup (K := K)) (pv 0) pe_int (fun _ _ => rfl)) (pa_cons (pe_bltn (v := .ty "str") rfl T.n_str boot_strT rfl) pa_nil))))))))) (pss_one (ps_ret pe_bl)) pss_nil)
      (pss_cons (ps_if (pt_cmpR op_eq (pe_ix (kix_tup (K := K)) (pv 0) pe_int (fun _ _ => rfl)) pe_str (nomark _)) (pss_one (ps_ret (pe_and (pe_cmpR op_eq (pe_callB (kcall_len_seq (K := K)) (by rfl) T.n_len PySem.boot_len (pa_cons (pv 0) pa_nil)) pe_int (nomark _)) (pe_one (pe_callH h_is_whole_below hr (by rfl) (pa_cons (pe_ix (kix_tup (K := K)) (pv 0) pe_int (fun _ _ => rfl)) (pa_cons (pv 1) pa_nil))))))) pss_nil)
      (pss_cons (ps_if (pt_cmpR op_eq (pe_ix (kix_tup (K := K)) (pv 0) pe_int (fun _ _ => rfl)) pe_str (nomark _)) (pss_one (ps_ret (pe_and (pe_cmpR op_eq (pe_callB (kcall_len_seq (K := K)) (by rfl) T.n_len PySem.boot_len (pa_cons (pv 0) pa_nil)) pe_int (nomark _)) (pe_one (pe_callH h_are_two_lines hr (by rfl) (pa_cons (pe_ix (kix_tup (K := K)) (pv 0) pe_int (fun _ _ => rfl)) (pa_cons (pe_ix (kix_tup (K := K)) (pv 0) pe_int (fun _ _ => rfl)) (pa_cons (pv 1) pa_nil)))))))) pss_nil)
      (pss_cons (ps_if (pt_cmpR op_eq (pe_ix (kix_tup (K := K)) (pv 0) pe_int (fun _ _ => rfl)) pe_str (nomark _)) (pss_one (ps_ret (pe_and (pe_cmpR op_eq (pe_callB (kcall_len_seq (K := K)) (by rfl) T.n_len PySem.boot_len (pa_cons (pv 0) pa_nil)) pe_int (nomark _)) (pe_and (pe_callH h_are_two_lines hr (by rfl) (pa_cons (pe_ix (kix_tup (K := K)) (pv 0) pe_int (fun _ _ => rfl)) (pa_cons (pe_ix (kix_tup (K := K)) (pv 0) pe_int (fun _ _ => rfl)) (pa_cons (pv 1) pa_nil)))) (pe_one (pe_callH h_is_whole hr (by rfl) (pa_cons (pe_ix (kix_tup (K := K)) (pv 0) pe_int (fun _ _ => rfl)) pa_nil))))))) pss_nil)
      (pss_one (ps_ret pe_bl)))))), ?_⟩
    cases t with
    | mi i =>
      have hi : i < m := hok
      obtain ⟨ta, vs, rfl, hT, rT⟩ := id hu
      obtain ⟨_, _, rfl, rfl, _, _, rfl, rfl, rfl⟩ := rT
      refine ⟨_, rfl, _, "tuple", _, rfl, .inr (.inr (.inr (.inl rfl))), hu, _, rfl, ?_⟩
      refine ifN (by simp [isD, dTn]) ?_
      refine ⟨_, rfl, ta, _, rfl, .inr hT, rfl, _, rfl, ?_⟩
      refine ifN (noI (by simp)) ?_
      refine ⟨_, rfl, ta, _, _, _, rfl, rfl, hT, rfl, .str "minus", "str", .str "minus", rfl, .inr (.inr (.inl rfl)), rfl, _, rfl, ?_⟩
      refine ifN (by simp [isD]) ?_
      refine ⟨_, rfl, ta, _, _, _, rfl, rfl, hT, rfl, rfl, _, rfl, ?_⟩
      refine ifP (by decide +kernel) ?_
      refine ⟨_, rfl, ta, _, rfl, .inr hT, rfl, _, rfl, ?_⟩
      refine ifP (isI (by simp)) ?_
      refine ⟨_, rfl, ta, _, _, _, rfl, rfl, hT, rfl, _, rfl, _, .int i, m, rfl, rfl, ?_⟩
      rw [show belowD (.int (i : Int)) (m : Int) = true by show (decide (0 ≤ (i : Int)) && decide ((i : Int) < m)) = true; simp; omega]
      exact k
    | sw i j =>
      obtain ⟨hi, hj, hij⟩ := hok
      obtain ⟨ta, vs, rfl, hT, rT⟩ := id hu
      obtain ⟨_, _, rfl, rfl, _, _, rfl, rfl, _, _, rfl, rfl, rfl⟩ := rT
      refine ⟨_, rfl, _, "tuple", _, rfl, .inr (.inr (.inr (.inl rfl))), hu, _, rfl, ?_⟩
      refine ifN (by simp [isD, dTn]) ?_
      refine ⟨_, rfl, ta, _, rfl, .inr hT, rfl, _, rfl, ?_⟩
      refine ifN (noI (by simp; try omega)) ?_
      refine ⟨_, rfl, ta, _, _, _, rfl, rfl, hT, rfl, .str "swap", "str", .str "swap", rfl, .inr (.inr (.inl rfl)), rfl, _, rfl, ?_⟩
      refine ifN (by simp [isD]) ?_
      refine ⟨_, rfl, ta, _, _, _, rfl, rfl, hT, rfl, rfl, _, rfl, ?_⟩
      refine ifN (by decide +kernel) ?_
      refine ⟨_, rfl, ta, _, _, _, rfl, rfl, hT, rfl, rfl, _, rfl, ?_⟩
      refine ifP (by decide +kernel) ?_
      refine ⟨_, rfl, ta, _, rfl, .inr hT, rfl, _, rfl, ?_⟩
      refine ifP (isI (by simp)) ?_
      exact ⟨_, rfl, ta, _, _, _, rfl, rfl, hT, rfl, _, rfl, ta, _, _, _, rfl, rfl, hT, rfl, _, rfl, i, j, m, rfl, hi, hj, hij, k⟩
    | ad i j n =>
      obtain ⟨hi, hj, hij⟩ := hok
      obtain ⟨ta, vs, rfl, hT, rT⟩ := id hu
      obtain ⟨_, _, rfl, rfl, _, _, rfl, rfl, _, _, rfl, rfl, _, _, rfl, rfl, rfl⟩ := rT
      refine ⟨_, rfl, _, "tuple", _, rfl, .inr (.inr (.inr (.inl rfl))), hu, _, rfl, ?_⟩
      refine ifN (by simp [isD, dTn]) ?_
      refine ⟨_, rfl, ta, _, rfl, .inr hT, rfl, _, rfl, ?_⟩
      refine ifN (noI (by simp; try omega)) ?_
      refine ⟨_, rfl, ta, _, _, _, rfl, rfl, hT, rfl, .str "add", "str", .str "add", rfl, .inr (.inr (.inl rfl)), rfl, _, rfl, ?_⟩
      refine ifN (by simp [isD]) ?_
      refine ⟨_, rfl, ta, _, _, _, rfl, rfl, hT, rfl, rfl, _, rfl, ?_⟩
      refine ifN (by decide +kernel) ?_
      refine ⟨_, rfl, ta, _, _, _, rfl, rfl, hT, rfl, rfl, _, rfl, ?_⟩
      refine ifN (by decide +kernel) ?_
      refine ⟨_, rfl, ta, _, _, _, rfl, rfl, hT, rfl, rfl, _, rfl, ?_⟩
      refine ifP (by decide +kernel) ?_
      refine ⟨_, rfl, ta, _, rfl, .inr hT, rfl, _, rfl, ?_⟩
      refine ifP (isI (by simp)) ?_
      refine ⟨_, rfl, ta, _, _, _, rfl, rfl, hT, rfl, _, rfl, ta, _, _, _, rfl, rfl, hT, rfl, _, rfl, i, j, m, rfl, hi, hj, hij, _, rfl, ?_⟩
      refine ifP rfl ?_
      refine ⟨_, rfl, ta, _, _, _, rfl, rfl, hT, rfl, _, .int n, rfl, rfl, ?_⟩
      exact k
abbrev s_Turner__init_ : Stmt := inClass (top 27) 0
theorem sc_Turner__init_ : FnScope ["self", "table", "width"] ["self", "table", "width"] (defScope s_Turner__init_) := ⟨rfl, rfl, rfl, by decide +kernel, rfl, by decide +kernel, by decide +kernel⟩
theorem ok_Turner__init_ {f : Addr} {fd : FuncData} (F : Fun K "__init__" "Turner.__init__" s_Turner__init_ f fd) (T : Txt K mg C_NoTurn C_Lines C_Turner) (h_copied : Has P w K mg base "copied" ["table"] 1 (sp_copied K)) (hc_Lines : HasC P w K mg base C_Lines ["self", "rows", "backs"] 1 (sp_Lines__init_ K C_Lines C_Turner)) (h_is_table : Has P w K mg base "is_table" ["thing", "width"] 3 (sp_is_table K)) (h_ones : Has P w K mg base "ones" ["size"] 2 (sp_ones K)) : FnOk P w K mg base CX0 4 f fd ["self", "table", "width"] (spW_init K C_Lines C_Turner) := by
  refine F.ok sc_Turner__init_ (fun vs H Q E h => ?_) (fun cdv A outer s H vs Q E hr h => ?_)
  · obtain ⟨p, dx, v, h, w, B, f, rfl, hp, hv, hh, hw, bf, hB, k⟩ := h
    rfl
  · obtain ⟨p, dx, v, h, w, B, f, rfl, hp, hv, hh, hw, bf, hB, k⟩ := h
    refine ⟨_, (pss_cons (ps_if (pt_not (pt_val (pe_callH h_is_table hr (by rfl) (pa_cons (pv 1) (pa_cons (pv 2) pa_nil))))) (pss_one ps_never) pss_nil)
      (pss_cons (kps_fld (K := K) (pv 0) (pe_callH h_copied hr (by rfl) (pa_cons (pv 1) pa_nil)))
      (pss_cons (kps_fld (K := K) (pv 0) (pv 2))
      (pss_cons (kps_fld (K := K) (pv 0) (pe_makeH hc_Lines hr (by rfl) T.m_Lines (pa_cons (pe_callH h_ones hr (by rfl) (pa_cons (pe_callB (kcall_len_seq (K := K)) (by rfl) T.n_len PySem.boot_len (pa_cons (pv 1) pa_nil)) pa_nil)) (pa_cons (pe_callH h_ones hr (by rfl) (pa_cons (pe_callB (kcall_len_seq (K := K)) (by rfl) T.n_len PySem.boot_len (pa_cons (pv 1) pa_nil)) pa_nil)) pa_nil))))
      (pss_cons (kps_fld (K := K) (pv 0) (pe_makeH hc_Lines hr (by rfl) T.m_Lines (pa_cons (pe_callH h_ones hr (by rfl) (pa_cons (pv 2) pa_nil)) (pa_cons (pe_callH h_ones hr (by rfl) (pa_cons (pv 2) pa_nil)) pa_nil))))
      (pss_one (kps_fld (K := K) (pv 0) (pe_lst pa_nil)))))))), ?_⟩
    refine ⟨_, rfl, _, rfl, v, h, w, f, rfl, hv, hh, by omega, fun H1 s1 => ⟨_, rfl, ?_⟩⟩
    refine ifN (by simp) ?_
    refine ⟨_, rfl, v, h, w, f, rfl, Rep.same s1 hv, by omega, fun D1 as1 H2 hl1 R1 => ?_⟩
    have s2 := s1.trans R1.same
    refine ⟨_, rfl, p, C_Turner, dx, [], rfl, s2 _ _ hp, T.cl_Turner, T.na_Turner_table, by simp, ?_⟩
    have ls3 : Ls H2 (upd H2 p (.ins C_Turner dx (putF "table" (.ref D1) []))) := Ls.upd (s2 _ _ hp)
    have kp3 : Kp H (upd H2 p (.ins C_Turner dx (putF "table" (.ref D1) []))) := (Kp.of s2).trans Kp.upd
    have sx3 : SameX p H (upd H2 p (.ins C_Turner dx (putF "table" (.ref D1) []))) := SameX.upd (SameX.of s2)
    have hp3 : (upd H2 p (.ins C_Turner dx (putF "table" (.ref D1) []))) p = some (.ins C_Turner dx (putF "table" (.ref D1) [])) := upd_same
    generalize upd H2 p (.ins C_Turner dx (putF "table" (.ref D1) [])) = H3 at ls3 kp3 sx3 hp3
    refine ⟨_, rfl, _, rfl, p, C_Turner, dx, _, rfl, hp3, T.cl_Turner, T.na_Turner_width, by simp [putF], ?_⟩
    have ls4 : Ls H2 (upd H3 p (.ins C_Turner dx (putF "width" (.int w) (putF "table" (.ref D1) [])))) := ls3.trans (Ls.upd hp3)
    have kp4 : Kp H (upd H3 p (.ins C_Turner dx (putF "width" (.int w) (putF "table" (.ref D1) [])))) := kp3.trans Kp.upd
    have sx4 : SameX p H (upd H3 p (.ins C_Turner dx (putF "width" (.int w) (putF "table" (.ref D1) [])))) := SameX.upd sx3
    have hp4 : (upd H3 p (.ins C_Turner dx (putF "width" (.int w) (putF "table" (.ref D1) [])))) p = some (.ins C_Turner dx (putF "width" (.int w) (putF "table" (.ref D1) []))) := upd_same
    generalize upd H3 p (.ins C_Turner dx (putF "width" (.int w) (putF "table" (.ref D1) []))) = H4 at ls4 kp4 sx4 hp4
    obtain ⟨va, us, rfl, hqv, hul, _⟩ := dT_sq hv
    have hqx : ∀ {H' : Hp}, SameX p H H' → SqL K H' va us := fun {H'} sx => by
      rcases hqv with (q | ⟨o, q⟩) | q
      · exact .inl (.inl (sx _ _ (ne_of q hp (by intro z; cases z)) q))
      · exact .inl (.inr ⟨o, sx _ _ (ne_of q hp (by intro z; cases z)) q⟩)
      · exact .inr q
    refine ⟨_, rfl, va, us, rfl, .inl (hqx sx4), h, (by rw [hul] <;> rfl), by omega, fun O1 os1 H5 hlo1 Q1 => ?_⟩
    refine ⟨_, rfl, va, us, rfl, .inl (hqx (sx4.trans (SameX.of Q1.same))), h, (by rw [hul] <;> rfl), by omega, fun O2 os2 H6 hlo2 Q2 => ?_⟩
    have s46 := Q1.same.trans Q2.same
    intro L dl nL ndl nedl
    have s7 : Same H6 (upd (upd H6 dl (.own L)) L (.ins C_Lines dl [])) := (Same.new ndl).turn nL
    refine ⟨L, dl, .ref O1, .ref O2, rfl, upd_same, fun H8 sx8 la8 => ⟨rfl, ?_⟩⟩
    have hL7 : (upd (upd H6 dl (.own L)) L (.ins C_Lines dl [])) L = some (.ins C_Lines dl []) := upd_same
    generalize upd (upd H6 dl (.own L)) L (.ins C_Lines dl []) = H7 at s7 sx8 hL7
    obtain ⟨dl8, fl8, hL8, la8'⟩ := id la8
    have ls68 : Ls H6 H8 := (Ls.of s7).trans (Ls.x hL7 sx8)
    have kp68 : Kp H6 H8 := (Kp.of s7).trans (Kp.x sx8 hL8)
    have hp8 : H8 p = some (.ins C_Turner dx (putF "width" (.int w) (putF "table" (.ref D1) []))) := sx8 _ _ (ne_of_none (s46 _ _ hp4) nL) ((s46.trans s7) _ _ hp4)
    have npL : p ≠ L := ne_of_none (s46 _ _ hp4) nL
    have hL0 : H L = none := by
      cases z : H L with
      | none => rfl
      | some o => exact absurd nL ((kp4.trans (Kp.of s46)) L (by rw [z]; exact fun q => by cases q))
    refine ⟨_, rfl, p, C_Turner, dx, _, rfl, hp8, T.cl_Turner, T.na_Turner_left, Nat.lt_of_le_of_lt (putF_le (putF_le (Nat.le_refl 0))) (by decide), ?_⟩
    have ls9 : Ls H8 (upd H8 p (.ins C_Turner dx (putF "left" (.ref L) (putF "width" (.int w) (putF "table" (.ref D1) []))))) := Ls.upd hp8
    have kp9 : Kp H8 (upd H8 p (.ins C_Turner dx (putF "left" (.ref L) (putF "width" (.int w) (putF "table" (.ref D1) []))))) := Kp.upd
    have sx9 : SameX p H8 (upd H8 p (.ins C_Turner dx (putF "left" (.ref L) (putF "width" (.int w) (putF "table" (.ref D1) []))))) := SameX.upd (SameX.refl _ _)
    have hp9 : (upd H8 p (.ins C_Turner dx (putF "left" (.ref L) (putF "width" (.int w) (putF "table" (.ref D1) []))))) p = some (.ins C_Turner dx (putF "left" (.ref L) (putF "width" (.int w) (putF "table" (.ref D1) [])))) := upd_same
    generalize upd H8 p (.ins C_Turner dx (putF "left" (.ref L) (putF "width" (.int w) (putF "table" (.ref D1) [])))) = H9 at ls9 kp9 sx9 hp9
    have la9 : LinesAt C_Lines H9 L (.ref O1) (.ref O2) := la8.keep fun o e => sx9 L o npL.symm e
    refine ⟨_, rfl, w, rfl, by omega, fun O3 os3 H10 hlo3 Q3 => ?_⟩
    refine ⟨_, rfl, w, rfl, by omega, fun O4 os4 H11 hlo4 Q4 => ?_⟩
    have s911 := Q3.same.trans Q4.same
    intro R dr nR ndr nedr
    have s12 : Same H11 (upd (upd H11 dr (.own R)) R (.ins C_Lines dr [])) := (Same.new ndr).turn nR
    refine ⟨R, dr, .ref O3, .ref O4, rfl, upd_same, fun H13 sx13 la13 => ⟨rfl, ?_⟩⟩
    have hR12 : (upd (upd H11 dr (.own R)) R (.ins C_Lines dr [])) R = some (.ins C_Lines dr []) := upd_same
    generalize upd (upd H11 dr (.own R)) R (.ins C_Lines dr []) = H12 at s12 sx13 hR12
    obtain ⟨dr13, fr13, hR13, la13'⟩ := id la13
    have ls1113 : Ls H11 H13 := (Ls.of s12).trans (Ls.x hR12 sx13)
    have kp1113 : Kp H11 H13 := (Kp.of s12).trans (Kp.x sx13 hR13)
    have npR : p ≠ R := ne_of_none (s911 _ _ hp9) nR
    obtain ⟨dl9, fl9, hL9, _⟩ := id la9
    have nLR : L ≠ R := ne_of_none (s911 _ _ hL9) nR
    have hp13 : H13 p = some (.ins C_Turner dx (putF "left" (.ref L) (putF "width" (.int w) (putF "table" (.ref D1) [])))) := sx13 _ _ npR ((s911.trans s12) _ _ hp9)
    have kp010 : Kp H H9 := ((kp4.trans (Kp.of s46)).trans kp68).trans kp9
    have hR0 : H R = none := by
      cases z : H R with
      | none => rfl
      | some o => exact absurd nR ((kp010.trans (Kp.of s911)) R (by rw [z]; exact fun q => by cases q))
    refine ⟨_, rfl, p, C_Turner, dx, _, rfl, hp13, T.cl_Turner, T.na_Turner_right, Nat.lt_of_le_of_lt (putF_le (putF_le (putF_le (Nat.le_refl 0)))) (by decide), ?_⟩
    have ls14 : Ls H13 (upd H13 p (.ins C_Turner dx (putF "right" (.ref R) (putF "left" (.ref L) (putF "width" (.int w) (putF "table" (.ref D1) [])))))) := Ls.upd hp13
    have sx14 : SameX p H13 (upd H13 p (.ins C_Turner dx (putF "right" (.ref R) (putF "left" (.ref L) (putF "width" (.int w) (putF "table" (.ref D1) [])))))) := SameX.upd (SameX.refl _ _)
    have hp14 : (upd H13 p (.ins C_Turner dx (putF "right" (.ref R) (putF "left" (.ref L) (putF "width" (.int w) (putF "table" (.ref D1) [])))))) p = some (.ins C_Turner dx (putF "right" (.ref R) (putF "left" (.ref L) (putF "width" (.int w) (putF "table" (.ref D1) []))))) := upd_same
    have kp14 : Kp H13 (upd H13 p (.ins C_Turner dx (putF "right" (.ref R) (putF "left" (.ref L) (putF "width" (.int w) (putF "table" (.ref D1) [])))))) := Kp.upd
    generalize upd H13 p (.ins C_Turner dx (putF "right" (.ref R) (putF "left" (.ref L) (putF "width" (.int w) (putF "table" (.ref D1) []))))) = H14 at ls14 sx14 hp14 kp14
    have la14 : LinesAt C_Lines H14 R (.ref O3) (.ref O4) := la13.keep fun o e => sx14 R o npR.symm e
    have lb14 : LinesAt C_Lines H14 L (.ref O1) (.ref O2) := la9.keep fun o e => sx14 L o npL.symm (sx13 L o nLR ((s911.trans s12) _ _ e))
    refine ⟨Nat.zero_le _, fun dn hdn => ?_⟩
    have s15 : Same H14 (upd H14 dn (.lst [])) := Same.new hdn
    refine ⟨_, rfl, p, C_Turner, dx, _, rfl, s15 _ _ hp14, T.cl_Turner, T.na_Turner_done, Nat.lt_of_le_of_lt (putF_le (putF_le (putF_le (putF_le (Nat.le_refl 0))))) (by decide), ?_⟩
    have npd : p ≠ dn := ne_of_none hp14 hdn
    obtain ⟨dLx, fLx, hL14, lL⟩ := id lb14
    obtain ⟨dRx, fRx, hR14, lR⟩ := id la14
    have nLd : L ≠ dn := ne_of_none hL14 hdn
    have nRd : R ≠ dn := ne_of_none hR14 hdn
    have kpall : Kp H H14 := ((kp010.trans (Kp.of s911)).trans kp1113).trans kp14
    have hd0 : H dn = none := by
      cases z : H dn with
      | none => rfl
      | some o => exact absurd hdn (kpall dn (by rw [z]; exact fun q => by cases q))
    have hdn15 : (upd H14 dn (.lst [])) dn = some (.lst []) := upd_same
    generalize upd H14 dn (.lst []) = H15 at s15 hdn15
    have hsub : ∀ {H' : Hp} {c : Addr} {q : List V}, Ls H' H14 → H' c = some (.lst q) → c ≠ L ∧ c ≠ R ∧ c ≠ dn := fun {H' c q} ls e => ⟨ne_of (ls c q e) hL14 (by intro z; cases z), ne_of (ls c q e) hR14 (by intro z; cases z), ne_of_none (ls c q e) hdn⟩
    have sx16 : SameX p H15 (upd H15 p (.ins C_Turner dx (putF "done" (.ref dn) (putF "right" (.ref R) (putF "left" (.ref L) (putF "width" (.int w) (putF "table" (.ref D1) []))))))) := SameX.upd (SameX.refl _ _)
    have ls16 : Ls H15 (upd H15 p (.ins C_Turner dx (putF "done" (.ref dn) (putF "right" (.ref R) (putF "left" (.ref L) (putF "width" (.int w) (putF "table" (.ref D1) []))))))) := Ls.upd (s15 _ _ hp14)
    have hp16 : (upd H15 p (.ins C_Turner dx (putF "done" (.ref dn) (putF "right" (.ref R) (putF "left" (.ref L) (putF "width" (.int w) (putF "table" (.ref D1) []))))))) p = some (.ins C_Turner dx (putF "done" (.ref dn) (putF "right" (.ref R) (putF "left" (.ref L) (putF "width" (.int w) (putF "table" (.ref D1) [])))))) := upd_same
    have kp16 : Kp H15 (upd H15 p (.ins C_Turner dx (putF "done" (.ref dn) (putF "right" (.ref R) (putF "left" (.ref L) (putF "width" (.int w) (putF "table" (.ref D1) []))))))) := Kp.upd
    generalize upd H15 p (.ins C_Turner dx (putF "done" (.ref dn) (putF "right" (.ref R) (putF "left" (.ref L) (putF "width" (.int w) (putF "table" (.ref D1) [])))))) = H16 at sx16 ls16 hp16 kp16
    have lsf : Ls H14 H16 := (Ls.of s15).trans ls16
    have ls4_14 : Ls H4 H14 := ((((Ls.of s46).trans ls68).trans ls9).trans ((Ls.of s911).trans ls1113)).trans ls14
    have ls5_14 : Ls H5 H14 := ((((Ls.of Q2.same).trans ls68).trans ls9).trans ((Ls.of s911).trans ls1113)).trans ls14
    have ls6_14 : Ls H6 H14 := (((ls68).trans ls9).trans ((Ls.of s911).trans ls1113)).trans ls14
    have ls10_14 : Ls H10 H14 := ((Ls.of Q4.same).trans ls1113).trans ls14
    have ls11_14 : Ls H11 H14 := ls1113.trans ls14
    have nzz : ∀ {H' : Hp}, Ls H' H14 → ∀ c q, H c = none → H' c = some (.lst q) → ¬ (H c ≠ none ∨ c = L ∨ c = R ∨ c = dn) := fun {H'} ls c q e0 e1 z => by
      obtain ⟨a1, a2, a3⟩ := hsub ls e1
      rcases z with z | z | z | z
      · exact z e0
      · exact a1 z
      · exact a2 z
      · exact a3 z
    have bOne : bT B fun i j => if j = i then 1 else 0 := fun i j => by
      have h1 : (2 : Nat) ^ 1 ≤ 2 ^ B := Nat.pow_le_pow_right (by decide) (by omega)
      dsimp only
      split
      · show 1 < 2 ^ B; omega
      · show 0 < 2 ^ B; omega
    have fin : ∀ a, H14 a ≠ none → H16 a ≠ none := (Kp.of s15).trans kp16
    refine k L R dn H16 hL0 hR0 hd0 (((((((sx4.trans (SameX.of s46)).trans ?_).trans sx9).trans ?_).trans sx14).trans (SameX.of s15)).trans sx16) ?_
    · exact fun a o n e => sx8 a o (ne_of_none e nL) (s7 _ _ e)
    · exact fun a o n e => sx13 a o (ne_of_none (s911 _ _ e) nR) ((s911.trans s12) _ _ e)
    refine ⟨⟨.ref D1, ⟨dx, _, hp16, (by ((repeat (first | rw [lookup_putF, if_pos rfl] | rw [lookup_putF, if_neg (by decide +kernel)])) <;> first | rfl | assumption)), (by ((repeat (first | rw [lookup_putF, if_pos rfl] | rw [lookup_putF, if_neg (by decide +kernel)])) <;> first | rfl | assumption)), (by ((repeat (first | rw [lookup_putF, if_pos rfl] | rw [lookup_putF, if_neg (by decide +kernel)])) <;> first | rfl | assumption)), (by ((repeat (first | rw [lookup_putF, if_pos rfl] | rw [lookup_putF, if_neg (by decide +kernel)])) <;> first | rfl | assumption)), (by ((repeat (first | rw [lookup_putF, if_pos rfl] | rw [lookup_putF, if_neg (by decide +kernel)])) <;> first | rfl | assumption)), ⟨(by ((repeat (first | rw [lookup_putF, if_pos rfl] | rw [lookup_putF, if_neg (by decide +kernel)])) <;> first | rfl | assumption)), (by ((repeat (first | rw [lookup_putF, if_pos rfl] | rw [lookup_putF, if_neg (by decide +kernel)])) <;> first | rfl | assumption)), (by ((repeat (first | rw [lookup_putF, if_pos rfl] | rw [lookup_putF, if_neg (by decide +kernel)])) <;> first | rfl | assumption)), (by ((repeat (first | rw [lookup_putF, if_pos rfl] | rw [lookup_putF, if_neg (by decide +kernel)])) <;> first | rfl | assumption)), (by ((repeat (first | rw [lookup_putF, if_pos rfl] | rw [lookup_putF, if_neg (by decide +kernel)])) <;> first | rfl | assumption)), (by ((repeat (first | rw [lookup_putF, if_pos rfl] | rw [lookup_putF, if_neg (by decide +kernel)])) <;> first | rfl | assumption)), (by ((repeat (first | rw [lookup_putF, if_pos rfl] | rw [lookup_putF, if_neg (by decide +kernel)])) <;> first | rfl | assumption)), (by ((repeat (first | rw [lookup_putF, if_pos rfl] | rw [lookup_putF, if_neg (by decide +kernel)])) <;> first | rfl | assumption))⟩, ?_⟩, R1.hid2 hl1 (Kp.of s1) ((ls4.trans ls4_14).trans lsf) (nzz (ls4.trans ls4_14))⟩, ?_, ?_, ⟨[], sx16 _ _ npd.symm hdn15, rfl⟩, bf, fun q hq => by simp at hq, ⟨npL, npR, npd, nLR, nLd, nRd⟩, ⟨.inl (by rw [hp]; intro z; cases z), .inr (.inl rfl), .inr (.inr (.inl rfl)), .inr (.inr (.inr rfl))⟩, ?_, ⟨by omega, by omega, by simp⟩, Good.first h w f, hB⟩
    · have e1 := length_putF "table" (V.ref D1) []
      have e2 := length_putF "width" (V.int w) (putF "table" (V.ref D1) [])
      have e3 := length_putF "left" (V.ref L) (putF "width" (V.int w) (putF "table" (V.ref D1) []))
      have e4 := length_putF "right" (V.ref R) (putF "left" (V.ref L) (putF "width" (V.int w) (putF "table" (V.ref D1) [])))
      have e5 := length_putF "done" (V.ref dn) (putF "right" (V.ref R) (putF "left" (V.ref L) (putF "width" (V.int w) (putF "table" (V.ref D1) []))))
      simp at e1
      omega
    · refine ⟨.ref O1, .ref O2, lb14.keep fun o e => sx16 L o npL.symm (s15 _ _ e), Q1.hid2 hlo1 kp4 (ls5_14.trans lsf) (nzz ls5_14), Q2.hid2 hlo2 (kp4.trans (Kp.of Q1.same)) (ls6_14.trans lsf) (nzz ls6_14), bOne, bOne⟩
    · refine ⟨.ref O3, .ref O4, la14.keep fun o e => sx16 R o npR.symm (s15 _ _ e), Q3.hid2 hlo3 kp010 (ls10_14.trans lsf) (nzz ls10_14), Q4.hid2 hlo4 (kp010.trans (Kp.of Q3.same)) (ls11_14.trans lsf) (nzz ls11_14), bOne, bOne⟩
    · rintro a (z | rfl | rfl | rfl)
      · exact fin a (kpall a z)
      · exact fin _ (by rw [hL14]; exact fun z => by cases z)
      · exact fin _ (by rw [hR14]; exact fun z => by cases z)
      · exact kp16 _ (by rw [hdn15]; exact fun z => by cases z)
abbrev s_Turner_do_rows : Stmt := inClass (top 27) 3
theorem sc_Turner_do_rows : FnScope ["self", "turn"] ["self", "turn"] (defScope s_Turner_do_rows) := ⟨rfl, rfl, rfl, by decide +kernel, rfl, by decide +kernel, by decide +kernel⟩
theorem ok_Turner_do_rows {f : Addr} {fd : FuncData} (F : Fun K "do_rows" "Turner.do_rows" s_Turner_do_rows f fd) (T : Txt K mg C_NoTurn C_Lines C_Turner) (h_turned : Has P w K mg base "turned" ["lines", "turn"] 2 (sp_turned K)) (hm_Lines_turn : HasM P w K mg base C_Lines "turn" ["self", "turn"] 3 (spW_Lines_turn K C_Lines C_Turner)) : FnOk P w K mg base CX0 4 f fd ["self", "turn"] (spW_do_rows K C_Lines C_Turner) := by
  refine F.ok sc_Turner_do_rows (fun vs H Q E h => ?_) (fun cdv A outer s H vs Q E hr h => ?_)
  · obtain ⟨p, L, R, dn, u, Z, h, w, B, S, ds, t, rfl, x, hu, hok, bt, hB, k⟩ := h
    rfl
  · obtain ⟨p, L, R, dn, u, Z, h, w, B, S, ds, t, rfl, x, hu, hok, bt, hB, k⟩ := h
    refine ⟨_, (pss_cons (kps_fld (K := K) (pv 0) (pe_callH h_turned hr (by rfl) (pa_cons (kpe_fld (K := K) (pv 0)) (pa_cons (pv 1) pa_nil))))
      (pss_one (ps_expr (pe_methH (kpe_fld (K := K) (pv 0)) T.cl_Lines hm_Lines_turn hr (pa_cons (pv 1) pa_nil))))), ?_⟩
    obtain ⟨n1, n2, n3, n4, n5, n6⟩ := x.ne
    obtain ⟨z1, z2, z3, z4⟩ := x.z
    obtain ⟨sm1, sm2, sm3⟩ := x.sm
    obtain ⟨tb, ⟨dx, fs, hp, l1, l2, l3, l4, l5, lm, l6⟩, hrep⟩ := x.ob
    refine ⟨_, rfl, p, C_Turner, dx, fs, _, rfl, hp, T.cl_Turner, T.na_Turner_table, l1, _, rfl, tb, u, Z, h, w, B, S.f, t, rfl, hrep, x.zh, hu, hok, x.bf, bt.mono x.b3, hB, by omega, by omega, fun D1 H1 hD1 s1 r1 => ?_⟩
    refine ⟨_, rfl, p, C_Turner, dx, fs, rfl, s1 _ _ hp, T.cl_Turner, T.na_Turner_table, by omega, ?_⟩
    have hlen : (putF "table" (V.ref D1) fs).length = fs.length := putF_len l1
    have hp2 : (upd H1 p (.ins C_Turner dx (putF "table" (.ref D1) fs))) p = some (.ins C_Turner dx (putF "table" (.ref D1) fs)) := upd_same
    have sx : ∀ a o, a ≠ p → H1 a = some o → (upd H1 p (.ins C_Turner dx (putF "table" (.ref D1) fs))) a = some o := fun a o n e => by rw [upd_ne n]; exact e
    have hk2 : ∀ a, H a ≠ none → (upd H1 p (.ins C_Turner dx (putF "table" (.ref D1) fs))) a ≠ none := fun a ha e => by
      by_cases hap : a = p
      · rw [hap, upd_same] at e; cases e
      · rw [upd_ne hap] at e; exact ha (s1.free e)
    generalize hH2 : upd H1 p (.ins C_Turner dx (putF "table" (.ref D1) fs)) = H2 at hp2 sx hk2
    have sh12 : Same (hide H1 Z) (hide H2 Z) := hide_mono fun a o n e => sx a o (fun z => n (by rw [z]; exact z1)) e
    have sh02 : Same (hide H Z) (hide H2 Z) := (same_hid s1).trans sh12
    have fr2 : Fr4 p L R dn H H2 := fun a o m1 _ _ _ e => sx a o m1 (s1 _ _ e)
    have lf2 : LinesN K C_Lines H2 Z L h B S.l S.lb := x.lf.keep (fun o e => sx L o n1.symm (s1 _ _ e)) sh02
    obtain ⟨rl, bl, ⟨dxl, fsl, hl2, _, _, lt, _⟩, _⟩ := lf2.ex
    have hu2 : Rep K H2 u (dTn t) := Rep.t (x.t fr2) (imm_dTn t) hu
    refine ⟨_, rfl, p, C_Turner, dx, _, _, rfl, hp2, T.cl_Turner, T.na_Turner_left, (by rw [lookup_putF, if_neg (by decide +kernel)]; exact l3), L, dxl, fsl, rfl, hl2, lt, _, rfl, L, u, Z, h, B, t, S.l, S.lb, rfl, lf2, z2, fun a ha => hk2 a (x.zh a ha), hu2, hok, bt, x.b3, hB, by omega, fun H3 sx3 lo3 keep3 => ?_⟩
    have sh23 : Same (hide H2 Z) (hide H3 Z) := hide_mono fun a o n e => sx3 a o (fun z => n (by rw [z]; exact z2)) e
    have fr3 : Fr4 p L R dn H H3 := fun a o m1 m2 m3 m4 e => sx3 a o m2 (fr2 a o m1 m2 m3 m4 e)
    refine k H3 fr3 (x.redo (S' := S.row t) fr3 (by omega) ⟨.ref D1, ⟨dx, _, sx3 _ _ n1 hp2, ?_⟩, Rep.same (sh12.trans sh23) r1⟩ lo3 ((x.rt.keep (fun o e => sx3 R o n4.symm (sx R o n2.symm (s1 _ _ e))) (sh02.trans sh23)).mono (by omega)) (fun o e => sx3 dn o n5.symm (sx dn o n3.symm (s1 _ _ e))) (x.bf.turn3 bt) (fun a ha => keep3 a (hk2 a ha)) (x.gd.row hok))
    obtain ⟨m1, m2, m3, m4, m5, m6, m7, m8⟩ := lm
    refine ⟨(by ((repeat (first | rw [lookup_putF, if_pos rfl] | rw [lookup_putF, if_neg (by decide +kernel)])) <;> first | rfl | assumption)), (by ((repeat (first | rw [lookup_putF, if_pos rfl] | rw [lookup_putF, if_neg (by decide +kernel)])) <;> first | rfl | assumption)), (by ((repeat (first | rw [lookup_putF, if_pos rfl] | rw [lookup_putF, if_neg (by decide +kernel)])) <;> first | rfl | assumption)), (by ((repeat (first | rw [lookup_putF, if_pos rfl] | rw [lookup_putF, if_neg (by decide +kernel)])) <;> first | rfl | assumption)), (by ((repeat (first | rw [lookup_putF, if_pos rfl] | rw [lookup_putF, if_neg (by decide +kernel)])) <;> first | rfl | assumption)), ⟨(by ((repeat (first | rw [lookup_putF, if_pos rfl] | rw [lookup_putF, if_neg (by decide +kernel)])) <;> first | rfl | assumption)), (by ((repeat (first | rw [lookup_putF, if_pos rfl] | rw [lookup_putF, if_neg (by decide +kernel)])) <;> first | rfl | assumption)), (by ((repeat (first | rw [lookup_putF, if_pos rfl] | rw [lookup_putF, if_neg (by decide +kernel)])) <;> first | rfl | assumption)), (by ((repeat (first | rw [lookup_putF, if_pos rfl] | rw [lookup_putF, if_neg (by decide +kernel)])) <;> first | rfl | assumption)), (by ((repeat (first | rw [lookup_putF, if_pos rfl] | rw [lookup_putF, if_neg (by decide +kernel)])) <;> first | rfl | assumption)), (by ((repeat (first | rw [lookup_putF, if_pos rfl] | rw [lookup_putF, if_neg (by decide +kernel)])) <;> first | rfl | assumption)), (by ((repeat (first | rw [lookup_putF, if_pos rfl] | rw [lookup_putF, if_neg (by decide +kernel)])) <;> first | rfl | assumption)), (by ((repeat (first | rw [lookup_putF, if_pos rfl] | rw [lookup_putF, if_neg (by decide +kernel)])) <;> first | rfl | assumption))⟩, by omega⟩
abbrev s_Turner_do_columns : Stmt := inClass (top 27) 4
theorem sc_Turner_do_columns : FnScope ["self", "turn"] ["self", "turn"] (defScope s_Turner_do_columns) := ⟨rfl, rfl, rfl, by decide +kernel, rfl, by decide +kernel, by decide +kernel⟩
theorem ok_Turner_do_columns {f : Addr} {fd : FuncData} (F : Fun K "do_columns" "Turner.do_columns" s_Turner_do_columns f fd) (T : Txt K mg C_NoTurn C_Lines C_Turner) (h_flipped : Has P w K mg base "flipped" ["table", "width"] 2 (sp_flipped K)) (hm_Lines_turn : HasM P w K mg base C_Lines "turn" ["self", "turn"] 3 (spW_Lines_turn K C_Lines C_Turner)) (h_turned : Has P w K mg base "turned" ["lines", "turn"] 2 (sp_turned K)) : FnOk P w K mg base CX0 4 f fd ["self", "turn"] (spW_do_columns K C_Lines C_Turner) := by
  refine F.ok sc_Turner_do_columns (fun vs H Q E h => ?_) (fun cdv A outer s H vs Q E hr h => ?_)
  · obtain ⟨p, L, R, dn, u, Z, h, w, B, S, ds, t, rfl, x, hu, hok, bt, hB, k⟩ := h
    rfl
  · obtain ⟨p, L, R, dn, u, Z, h, w, B, S, ds, t, rfl, x, hu, hok, bt, hB, k⟩ := h
    refine ⟨_, (pss_cons (kps_fld (K := K) (pv 0) (pe_callH h_flipped hr (by rfl) (pa_cons (pe_callH h_turned hr (by rfl) (pa_cons (pe_callH h_flipped hr (by rfl) (pa_cons (kpe_fld (K := K) (pv 0)) (pa_cons (kpe_fld (K := K) (pv 0)) pa_nil))) (pa_cons (pv 1) pa_nil))) (pa_cons (pe_callB (kcall_len_seq (K := K)) (by rfl) T.n_len PySem.boot_len (pa_cons (kpe_fld (K := K) (pv 0)) pa_nil)) pa_nil))))
      (pss_one (ps_expr (pe_methH (kpe_fld (K := K) (pv 0)) T.cl_Lines hm_Lines_turn hr (pa_cons (pv 1) pa_nil))))), ?_⟩
    obtain ⟨n1, n2, n3, n4, n5, n6⟩ := x.ne
    obtain ⟨z1, z2, z3, z4⟩ := x.z
    obtain ⟨sm1, sm2, sm3⟩ := x.sm
    obtain ⟨tb, ⟨dx, fs, hp, l1, l2, l3, l4, l5, lm, l6⟩, hrep⟩ := x.ob
    have hrepH : Rep K H tb (dT h w S.f) := Rep.same hide_same hrep
    refine ⟨_, rfl, p, C_Turner, dx, fs, _, rfl, hp, T.cl_Turner, T.na_Turner_table, l1, _, rfl, p, C_Turner, dx, fs, _, rfl, hp, T.cl_Turner, T.na_Turner_width, l2, tb, h, w, S.f, rfl, hrepH, by omega, by omega, fun D1 as1 H1 hl1 R1 => ?_⟩
    have s1 := R1.same
    have zh1 : ∀ a, Z a → H1 a ≠ none := fun a ha e => x.zh a ha (s1.free e)
    refine ⟨_, rfl, .ref D1, u, Z, w, h, B, _, t, rfl, R1.hid hl1 x.zh, zh1, Rep.same s1 hu, hok, fun r c => x.bf c r, bt.mono x.b3, hB, by omega, by omega, fun D2 H2 hD2 s2 r2 => ?_⟩
    have s12 := s1.trans s2
    have zh2 : ∀ a, Z a → H2 a ≠ none := fun a ha e => zh1 a ha (s2.free e)
    obtain ⟨ta, us, rfl, hqa, hul, _⟩ := dT_sq (Rep.same s12 hrepH)
    refine ⟨_, rfl, p, C_Turner, dx, fs, _, rfl, s12 _ _ hp, T.cl_Turner, T.na_Turner_table, l1, ta, us, rfl, .inl hqa, .ref D2, w, h, _, (by rw [hul] <;> rfl), Rep.same hide_same r2, by omega, by omega, fun D3 as3 H3 hl3 R3 => ?_⟩
    have s13 := s12.trans R3.same
    refine ⟨_, rfl, p, C_Turner, dx, fs, rfl, s13 _ _ hp, T.cl_Turner, T.na_Turner_table, by omega, ?_⟩
    have r3 : Rep K (hide H3 Z) (.ref D3) (dT h w (tnC t S.f)) := R3.hid hl3 zh2
    have hlen : (putF "table" (V.ref D3) fs).length = fs.length := putF_len l1
    have hp4 : (upd H3 p (.ins C_Turner dx (putF "table" (.ref D3) fs))) p = some (.ins C_Turner dx (putF "table" (.ref D3) fs)) := upd_same
    have sx : ∀ a o, a ≠ p → H3 a = some o → (upd H3 p (.ins C_Turner dx (putF "table" (.ref D3) fs))) a = some o := fun a o n e => by rw [upd_ne n]; exact e
    have hk4 : ∀ a, H a ≠ none → (upd H3 p (.ins C_Turner dx (putF "table" (.ref D3) fs))) a ≠ none := fun a ha e => by
      by_cases hap : a = p
      · rw [hap, upd_same] at e; cases e
      · rw [upd_ne hap] at e; exact ha (s13.free e)
    generalize hH4 : upd H3 p (.ins C_Turner dx (putF "table" (.ref D3) fs)) = H4 at hp4 sx hk4
    have sh34 : Same (hide H3 Z) (hide H4 Z) := hide_mono fun a o n e => sx a o (fun z => n (by rw [z]; exact z1)) e
    have sh04 : Same (hide H Z) (hide H4 Z) := (same_hid s13).trans sh34
    have fr4 : Fr4 p L R dn H H4 := fun a o m1 _ _ _ e => sx a o m1 (s13 _ _ e)
    have rt4 : LinesN K C_Lines H4 Z R w B S.r S.rb := x.rt.keep (fun o e => sx R o n2.symm (s13 _ _ e)) sh04
    obtain ⟨rl, bl, ⟨dxl, fsl, hl2, _, _, lt, _⟩, _⟩ := rt4.ex
    have hu4 : Rep K H4 u (dTn t) := Rep.t (x.t fr4) (imm_dTn t) hu
    refine ⟨_, rfl, p, C_Turner, dx, _, _, rfl, hp4, T.cl_Turner, T.na_Turner_right, (by rw [lookup_putF, if_neg (by decide +kernel)]; exact l4), R, dxl, fsl, rfl, hl2, lt, _, rfl, R, u, Z, w, B, t, S.r, S.rb, rfl, rt4, z3, fun a ha => hk4 a (x.zh a ha), hu4, hok, bt, x.b3, hB, by omega, fun H5 sx5 lo5 keep5 => ?_⟩
    have sh45 : Same (hide H4 Z) (hide H5 Z) := hide_mono fun a o n e => sx5 a o (fun z => n (by rw [z]; exact z3)) e
    have fr5 : Fr4 p L R dn H H5 := fun a o m1 m2 m3 m4 e => sx5 a o m3 (fr4 a o m1 m2 m3 m4 e)
    refine k H5 fr5 (x.redo (S' := S.col t) fr5 (by omega) ⟨.ref D3, ⟨dx, _, sx5 _ _ n2 hp4, ?_⟩, Rep.same (sh34.trans sh45) r3⟩ ((x.lf.keep (fun o e => sx5 L o n4 (sx L o n1.symm (s13 _ _ e))) (sh04.trans sh45)).mono (by omega)) lo5 (fun o e => sx5 dn o n6.symm (sx dn o n3.symm (s13 _ _ e))) (x.bf.cols3 bt) (fun a ha => keep5 a (hk4 a ha)) (x.gd.col hok))
    obtain ⟨m1, m2, m3, m4, m5, m6, m7, m8⟩ := lm
    refine ⟨(by ((repeat (first | rw [lookup_putF, if_pos rfl] | rw [lookup_putF, if_neg (by decide +kernel)])) <;> first | rfl | assumption)), (by ((repeat (first | rw [lookup_putF, if_pos rfl] | rw [lookup_putF, if_neg (by decide +kernel)])) <;> first | rfl | assumption)), (by ((repeat (first | rw [lookup_putF, if_pos rfl] | rw [lookup_putF, if_neg (by decide +kernel)])) <;> first | rfl | assumption)), (by ((repeat (first | rw [lookup_putF, if_pos rfl] | rw [lookup_putF, if_neg (by decide +kernel)])) <;> first | rfl | assumption)), (by ((repeat (first | rw [lookup_putF, if_pos rfl] | rw [lookup_putF, if_neg (by decide +kernel)])) <;> first | rfl | assumption)), ⟨(by ((repeat (first | rw [lookup_putF, if_pos rfl] | rw [lookup_putF, if_neg (by decide +kernel)])) <;> first | rfl | assumption)), (by ((repeat (first | rw [lookup_putF, if_pos rfl] | rw [lookup_putF, if_neg (by decide +kernel)])) <;> first | rfl | assumption)), (by ((repeat (first | rw [lookup_putF, if_pos rfl] | rw [lookup_putF, if_neg (by decide +kernel)])) <;> first | rfl | assumption)), (by ((repeat (first | rw [lookup_putF, if_pos rfl] | rw [lookup_putF, if_neg (by decide +kernel)])) <;> first | rfl | assumption)), (by ((repeat (first | rw [lookup_putF, if_pos rfl] | rw [lookup_putF, if_neg (by decide +kernel)])) <;> first | rfl | assumption)), (by ((repeat (first | rw [lookup_putF, if_pos rfl] | rw [lookup_putF, if_neg (by decide +kernel)])) <;> first | rfl | assumption)), (by ((repeat (first | rw [lookup_putF, if_pos rfl] | rw [lookup_putF, if_neg (by decide +kernel)])) <;> first | rfl | assumption)), (by ((repeat (first | rw [lookup_putF, if_pos rfl] | rw [lookup_putF, if_neg (by decide +kernel)])) <;> first | rfl | assumption))⟩, by omega⟩
abbrev s_L_papers_hold : Stmt := top 46
theorem sc_L_papers_hold : FnScope ["_law_turner", "_law_table", "_law_now", "_law_width", "_law_held", "_law_papers", "_law_left", "_law_left_back", "_law_right", "_law_right_back", "_law_paper"] ["_law_turner", "_law_table", "_law_now", "_law_width", "_law_held"] (defScope s_L_papers_hold) := ⟨rfl, rfl, rfl, by decide +kernel, rfl, by decide +kernel, by decide +kernel⟩
theorem nd_L_papers_hold : (["_law_turner", "_law_table", "_law_now", "_law_width", "_law_held", "_law_papers", "_law_left", "_law_left_back", "_law_right", "_law_right_back", "_law_paper"] : List Str).Nodup := by decide +kernel

theorem ok_L_papers_hold {f : Addr} {fd : FuncData} (F : Fun K "_law_papers_hold" "_law_papers_hold" s_L_papers_hold f fd) (T : Txt K mg C_NoTurn C_Lines C_Turner) (hm_Turner_papers : HasM P w K mg base C_Turner "papers" ["self"] 3 (spW_papers K C_Lines C_Turner)) (h_L_product_by : Has P w K mg base "_law_product_by" ["_law_one", "_law_other", "_law_width"] 1 (sp_L_product_by K)) (h_L_undo : Has P w K mg base "_law_undo" ["_law_one", "_law_other", "_law_size"] 3 (spW_undo K)) (h_L_copy : Has P w K mg base "_law_copy" ["_law_table"] 1 (spW_copy K)) : FnOk P w K mg base CX0 4 f fd ["_law_turner", "_law_table", "_law_now", "_law_width", "_law_held"] (spW_papers_hold K C_Lines C_Turner) := by
  refine F.ok sc_L_papers_hold (fun vs H Q E h => ?_) (fun cdv A outer s H vs Q E hr h => ?_)
  · obtain ⟨p, L, R, dn, hd, tv, nv, Z, W, h, w, B, S, ds, ps, g, hs, rfl, x, hB, bTT, rtv, rnv, hfg, hhd, hW, hWd, rps, hhs, k⟩ := h
    rfl
  · obtain ⟨p, L, R, dn, hd, tv, nv, Z, W, h, w, B, S, ds, ps, g, hs, rfl, x, hB, bTT, rtv, rnv, hfg, hhd, hW, hWd, rps, hhs, k⟩ := h
    have hu8 : (A.deeper (PyProof.Rows.envOfC "_law_papers_hold" (defScope s_L_papers_hold) s.heap.objs.size f cdv)).units + 8 < cLine := by have := hr.units; omega
    refine ⟨_, (pss_cons (ps_set (i := 5) nd_L_papers_hold (by rfl) (by first | exact Or.inl rfl | exact Or.inr rfl) (pe_methH0 (pv 0) T.cl_Turner hm_Turner_papers hr))
      (pss_cons (ps_if (PW.pt (pw_or (pt_not (pt_val (pe_callB (kcall_isinst (K := K)) (by rfl) T.n_isinstance boot_isinstanceB (pa_cons (pv 5) (pa_cons (pe_bltn (v := .ty "tuple") rfl T.n_tuple boot_tupleT rfl) pa_nil))))) (pw_or1 (pt_cmpR op_ne (pe_callB (kcall_len_seq (K := K)) (by rfl) T.n_len PySem.boot_len (pa_cons (pv 5) pa_nil)) pe_int (nomark _))))) (pss_one (ps_ret pe_bl)) pss_nil)
      (pss_cons (ps_asg (pv 5) (kpg_tup (K := K) (n := 4) (by rfl) (pgs_cons (pg_name (i := 6) nd_L_papers_hold (by rfl) (by first | exact Or.inl rfl | exact Or.inr rfl)) (pgs_cons (pg_name (i := 7) nd_L_papers_hold (by rfl) (by first | exact Or.inl rfl | exact Or.inr rfl)) (pgs_cons (pg_name (i := 8) nd_L_papers_hold (by rfl) (by first | exact Or.inl rfl | exact Or.inr rfl)) (pgs_cons (pg_name (i := 9) nd_L_papers_hold (by rfl) (by first | exact Or.inl rfl | exact Or.inr rfl)) pgs_nil))))))
      (pss_cons (ps_if (PW.pt (pw_or (pt_not (pt_val (pe_callH h_L_undo hr (by rfl) (pa_cons (pv 6) (pa_cons (pv 7) (pa_cons (pe_callB (kcall_len_seq (K := K)) (by rfl) T.n_len PySem.boot_len (pa_cons (pv 1) pa_nil)) pa_nil)))))) (pw_or1 (pt_not (pt_val (pe_callH h_L_undo hr (by rfl) (pa_cons (pv 8) (pa_cons (pv 9) (pa_cons (pv 3) pa_nil))))))))) (pss_one (ps_ret pe_bl)) pss_nil)
      (pss_cons (ps_expr (kpe_bm (K := K) PySem.F.plainAttrs_list PySem.F.slot_list_append PySem.F.type_list_append mt_append (pv 7) (pa_cons (pe_lst (pa_cons pe_int pa_nil)) pa_nil)))
      (pss_cons (ps_expr (kpe_bm (K := K) PySem.F.plainAttrs_list PySem.F.slot_list_append PySem.F.type_list_append mt_append (pv 9) (pa_cons (pe_lst (pa_cons pe_int pa_nil)) pa_nil)))
      (pss_cons (ps_for PassesOwn.never rfl (kpi_tup (K := K) (pe_tup (pa_cons (pv 6) (pa_cons (pv 7) (pa_cons (pv 8) (pa_cons (pv 9) pa_nil)))))) (pg_name (i := 10) nd_L_papers_hold (by rfl) (by first | exact Or.inl rfl | exact Or.inr rfl)) (pss_one (ps_expr (kpe_bm (K := K) PySem.F.plainAttrs_list PySem.F.slot_list_append PySem.F.type_list_append mt_append (pv 4) (pa_cons (pe_tup (pa_cons (pv 10) (pa_cons (pe_callH h_L_copy hr (by rfl) (pa_cons (pv 10) pa_nil)) pa_nil))) pa_nil)))))
      (pss_one (ps_ret (pe_cmpR (kop_eqD (K := K) hu8) (pe_callH h_L_product_by hr (by rfl) (pa_cons (pe_callH h_L_product_by hr (by rfl) (pa_cons (pv 6) (pa_cons (pv 1) (pa_cons (pv 3) pa_nil)))) (pa_cons (pv 8) (pa_cons (pv 3) pa_nil)))) (pv 2) (nomark _))))))))))), ?_⟩
    obtain ⟨tb, ⟨dx, fls, hp, l1, l2, l3, l4, l5, ⟨m1, m2, m3, m4, m5, m6, m7, m8⟩, l6⟩, hrep⟩ := x.ob
    obtain ⟨sm1, sm2, sm3⟩ := x.sm
    obtain ⟨_, _, _, _, _, bl1, bl2⟩ := x.lf.ex
    obtain ⟨_, _, _, _, _, br1, br2⟩ := x.rt.ex
    have hpl : ps.length = hs.length := by have := rps.length; simpa using this
    refine tSeq_cut (fun σ' H5 => ∃ (t D1 D2 D3 D4 : Addr) (as1 as2 as3 as4 : List Addr) (H1 H2 H3 H4 : Hp), σ' = [some (.ref p), some tv, some nv, some (.int (w : Int)), some (.ref hd), some (.ref t), none, none, none, none, none] ∧ as1.length = h ∧ Rows H H1 D1 as1 h (fun i j => S.lb j i) ∧ as2.length = w ∧ Rows H1 H2 D2 as2 w (fun i j => S.r j i) ∧ as3.length = h ∧ Rows H2 H3 D3 as3 h S.l ∧ as4.length = w ∧ Rows H3 H4 D4 as4 w S.rb ∧ H4 t = none ∧ H5 = upd H4 t (.tup [.ref D3, .ref D1, .ref D2, .ref D4])) ?_ fun key => ?_
    rotate_left
    · exact ⟨_, rfl, p, dx, fls, rfl, hp, m8, p, L, R, dn, Z, h, w, B, S, ds, rfl, x, fun t D1 D2 D3 D4 as1 as2 as3 as4 H1 H2 H3 H4 H5 hl1 R1 hl2 R2 hl3 R3 hl4 R4 ht e5 => key _ _ ⟨t, D1, D2, D3, D4, as1, as2, as3, as4, H1, H2, H3, H4, rfl, hl1, R1, hl2, R2, hl3, R3, hl4, R4, ht, e5⟩⟩
    rintro _ H5 ⟨t, D1, D2, D3, D4, as1, as2, as3, as4, H1, H2, H3, H4, rfl, hl1, R1, hl2, R2, hl3, R3, hl4, R4, ht, e5⟩
    have s45 : Same H4 H5 := by rw [e5]; exact Same.new ht
    have et : H5 t = some (.tup [.ref D3, .ref D1, .ref D2, .ref D4]) := by rw [e5]; exact upd_same
    clear e5
    have s1 := R1.same
    have s02 := s1.trans R2.same
    have s03 := s02.trans R3.same
    have s04 := s03.trans R4.same
    have s05 := s04.trans s45
    have f1 : H D1 = none := R1.free
    have f2 : H D2 = none := s1.free R2.free
    have f3 : H D3 = none := s02.free R3.free
    have f4 : H D4 = none := s03.free R4.free
    have n1 : ∀ c ∈ as1, H c = none := fun c hc => (R1.new c hc).1
    have n2 : ∀ c ∈ as2, H c = none := fun c hc => s1.free (R2.new c hc).1
    have n3 : ∀ c ∈ as3, H c = none := fun c hc => s02.free (R3.new c hc).1
    have n4 : ∀ c ∈ as4, H c = none := fun c hc => s03.free (R4.new c hc).1
    have T1a := R1.tab hl1
    have T2a := R2.tab hl2
    have T3a := R3.tab hl3
    have T4a := R4.tab hl4
    have T1b := T1a.same (R2.same.trans R3.same)
    have T2b := T2a.same R3.same
    obtain ⟨x14, y14⟩ := T1b.nes R4.free
    obtain ⟨x24, y24⟩ := T2b.nes R4.free
    obtain ⟨x34, y34⟩ := T3a.nes R4.free
    have at1_2 := R2.same _ _ R1.at
    have at1_3 := R3.same _ _ at1_2
    have x21 : D2 ≠ D1 := (ne_of_none R1.at R2.free).symm
    have x31 : D3 ≠ D1 := (ne_of_none at1_2 R3.free).symm
    have y21 : ∀ c ∈ as2, c ≠ D1 := fun c hc => (ne_of_none R1.at (R2.new c hc).1).symm
    have y31 : ∀ c ∈ as3, c ≠ D1 := fun c hc => (ne_of_none at1_2 (R3.new c hc).1).symm
    have y41 : ∀ c ∈ as4, c ≠ D1 := fun c hc => (ne_of_none at1_3 (R4.new c hc).1).symm
    have T1 : TabAt H5 D1 as1 _ := T1b.same (R4.same.trans s45)
    have T2 : TabAt H5 D2 as2 _ := T2b.same (R4.same.trans s45)
    have T3 : TabAt H5 D3 as3 _ := T3a.same (R4.same.trans s45)
    have T4 : TabAt H5 D4 as4 _ := T4a.same s45
    have rp1 : Rep K H5 (.ref D1) (dT h h fun i j => S.lb j i) := by rw [dT_dR]; exact T1.rep
    have rp2 : Rep K H5 (.ref D2) (dT w w fun i j => S.r j i) := by rw [dT_dR]; exact T2.rep
    have rp3 : Rep K H5 (.ref D3) (dT h h S.l) := by rw [dT_dR]; exact T3.rep
    have rp4 : Rep K H5 (.ref D4) (dT w w S.rb) := by rw [dT_dR]; exact T4.rep
    have rtv5 : Rep K H5 tv (dT h w S.T) := Rep.same s05 (Rep.same hide_same rtv)
    have rnv5 : Rep K H5 nv (dT h w g) := Rep.same s05 (Rep.same hide_same rnv)
    refine ⟨_, rfl, _, "tuple", .tup [dT h h S.l, dT h h fun i j => S.lb j i, dT w w fun i j => S.r j i, dT w w S.rb], rfl, .inr (.inr (.inr (.inl rfl))), ⟨t, _, rfl, .of et, ⟨_, _, rfl, rp3, ⟨_, _, rfl, rp1, ⟨_, _, rfl, rp2, ⟨_, _, rfl, rp4, rfl⟩⟩⟩⟩⟩, _, rfl, ?_⟩
    refine ifN (by simp [isD]) ?_
    refine ⟨_, rfl, t, _, rfl, .inr (.of et), rfl, _, rfl, ?_⟩
    refine ifN (by simp) ?_
    refine ⟨_, rfl, t, _, rfl, .of et, rfl, _, _, rfl, _, _, rfl, _, _, rfl, _, _, rfl, rfl, ?_⟩
    refine tSeq_cut (fun σ' H' => σ' = [some (.ref p), some tv, some nv, some (.int (w : Int)), some (.ref hd), some (.ref t), some (.ref D3), some (.ref D1), some (.ref D2), some (.ref D4), none] ∧ H5 = H') ?_ fun key0 => key0 _ _ ⟨rfl, rfl⟩
    rintro _ _ ⟨rfl, rfl⟩
    obtain ⟨ta, ws, rfl, hta, hwl, _⟩ := dT_sq rtv5
    refine tSeq_cut (t := tIfS _ _ _) (fun σ' H' => σ' = [some (.ref p), some (.ref ta), some nv, some (.int (w : Int)), some (.ref hd), some (.ref t), some (.ref D3), some (.ref D1), some (.ref D2), some (.ref D4), none] ∧ Same H5 H') ?_ fun key => ?_
    rotate_left
    · refine ⟨_, rfl, _, rfl, _, rfl, ta, ws, rfl, .inl hta, .ref D3, .ref D1, h, B, S.l, (fun i j => S.lb j i), (by rw [hwl] <;> rfl), rp3, rp1, by omega, bl1, (fun i j => bl2 j i), by omega, fun a b ha hb => x.gd.l1 a b ha hb, fun a b ha hb => x.gd.l2 a b ha hb, fun H6 s6 => ⟨_, rfl, ?_⟩⟩
      refine ifN (by decide) ?_
      refine ⟨_, rfl, _, rfl, _, rfl, .ref D2, .ref D4, w, B, (fun i j => S.r j i), S.rb, rfl, Rep.same s6 rp2, Rep.same s6 rp4, by omega, (fun i j => br1 j i), br2, by omega, fun a b ha hb => ?_, fun a b ha hb => ?_, fun H7 s7 => ⟨_, rfl, ?_⟩⟩
      · rw [dl_symm, ← x.gd.r2 b a hb ha]
        exact sumN_congr fun k _ => Int.mul_comm _ _
      · rw [dl_symm, ← x.gd.r1 b a hb ha]
        exact sumN_congr fun k _ => Int.mul_comm _ _
      refine ifN (by decide) ?_
      exact key _ _ ⟨rfl, s6.trans s7⟩
    rintro _ G6 ⟨rfl, s56⟩
    have s06 := s05.trans s56
    have U1 := T1.same s56
    have U2 := T2.same s56
    have U3 := T3.same s56
    have U4 := T4.same s56
    refine tSeq_cut (fun σ' G => σ' = [some (.ref p), some (.ref ta), some nv, some (.int (w : Int)), some (.ref hd), some (.ref t), some (.ref D3), some (.ref D1), some (.ref D2), some (.ref D4), none] ∧ Same H G ∧ TabAt G D3 as3 (rowsOf h h S.l) ∧ TabAt G D2 as2 (rowsOf w w fun i j => S.r j i) ∧ TabAt G D4 as4 (rowsOf w w S.rb) ∧ ∃ bs1, TabAt G D1 bs1 (rowsOf h h (fun i j => S.lb j i) ++ [[7]]) ∧ (∀ c ∈ bs1, H c = none) ∧ ∀ c ∈ bs1, c ≠ D4) ?_ fun key => ?_
    rotate_left
    · refine ⟨_, rfl, .inl ⟨rfl, _, .of U1.at⟩, smallE (by simp), fun n hn => ?_⟩
      have s67 : Same G6 (upd G6 n (.lst [.int 7])) := Same.new hn
      have en : upd G6 n (.lst [.int 7]) n = some (.lst (([7] : List Int).map V.int)) := upd_same
      have nD1 : n ≠ D1 := (ne_of_none U1.at hn).symm
      have nD4 : n ≠ D4 := (ne_of_none U4.at hn).symm
      generalize upd G6 n (.lst [.int 7]) = G7 at s67 en
      refine ⟨D1, _, _, rfl, rfl, s67 _ _ U1.at, small (by simp; omega), ?_⟩
      refine key _ _ ⟨rfl, (s06.trans s67).turn f1, (U3.same s67).put x31 y31, (U2.same s67).put x21 y21, (U4.same s67).put x14.symm y41, as1 ++ [n], (U1.same s67).push en nD1 fun c hc => (R1.new c hc).2, fun c hc => ?_, fun c hc => ?_⟩
      · rcases List.mem_append.mp hc with hc | hc
        · exact n1 c hc
        · have : c = n := by simpa using hc
          subst this; exact s06.free hn
      · rcases List.mem_append.mp hc with hc | hc
        · exact y14 c hc
        · have : c = n := by simpa using hc
          subst this; exact nD4
    rintro _ G8 ⟨rfl, s08, V3, V2, V4, bs1, V1, nb1, yb1⟩
    refine tSeq_cut (fun σ' G => σ' = [some (.ref p), some (.ref ta), some nv, some (.int (w : Int)), some (.ref hd), some (.ref t), some (.ref D3), some (.ref D1), some (.ref D2), some (.ref D4), none] ∧ Same H G ∧ TabAt G D3 as3 (rowsOf h h S.l) ∧ TabAt G D2 as2 (rowsOf w w fun i j => S.r j i) ∧ ∀ v ∈ ([.ref D3, .ref D1, .ref D2, .ref D4] : List V), NewTab H G v) ?_ fun key => ?_
    rotate_left
    · refine ⟨_, rfl, .inl ⟨rfl, _, .of V4.at⟩, smallE (by simp), fun n hn => ?_⟩
      have s67 : Same G8 (upd G8 n (.lst [.int 7])) := Same.new hn
      have en : upd G8 n (.lst [.int 7]) n = some (.lst (([7] : List Int).map V.int)) := upd_same
      have nD4 : n ≠ D4 := (ne_of_none V4.at hn).symm
      generalize upd G8 n (.lst [.int 7]) = G9 at s67 en
      refine ⟨D4, _, _, rfl, rfl, s67 _ _ V4.at, small (by simp; omega), ?_⟩
      have W3 := (V3.same s67).put (o := .lst (as4.map V.ref ++ [.ref n])) x34 y34
      have W2 := (V2.same s67).put (o := .lst (as4.map V.ref ++ [.ref n])) x24 y24
      have W1 := (V1.same s67).put (o := .lst (as4.map V.ref ++ [.ref n])) x14 yb1
      have W4 := (V4.same s67).push en nD4 fun c hc => (R4.new c hc).2
      refine key _ _ ⟨rfl, (s08.trans s67).turn f4, W3, W2, fun v hv => ?_⟩
      have lr : ∀ m (f : Nat → Nat → Int), m ≤ 60 → (rowsOf m m f).length ≤ 1000 := fun m f hm => by rw [rowsOf_len]; omega
      have lr7 : ∀ m (f : Nat → Nat → Int), m ≤ 60 → (rowsOf m m f ++ [[7]]).length ≤ 1000 := fun m f hm => by rw [List.length_append, rowsOf_len]; simp; omega
      simp only [List.mem_cons, List.not_mem_nil, or_false] at hv
      rcases hv with rfl | rfl | rfl | rfl
      · exact ⟨D3, _, _, rfl, W3, lr _ _ sm1, f3, n3⟩
      · exact ⟨D1, _, _, rfl, W1, lr7 _ _ sm1, f1, nb1⟩
      · exact ⟨D2, _, _, rfl, W2, lr _ _ sm2, f2, n2⟩
      · refine ⟨D4, _, _, rfl, W4, lr7 _ _ sm2, f4, fun c hc => ?_⟩
        rcases List.mem_append.mp hc with hc | hc
        · exact n4 c hc
        · have : c = n := by simpa using hc
          subst this; exact s08.free hn
    rintro _ G10 ⟨rfl, s010, W3, W2, all⟩
    refine tSeq_cut (fun σ' G => ∃ (o10 : Option V) (ps' : List V) (hs' : List (List (List Int))), σ' = [some (.ref p), some (.ref ta), some nv, some (.int (w : Int)), some (.ref hd), some (.ref t), some (.ref D3), some (.ref D1), some (.ref D2), some (.ref D4), o10] ∧ SameX hd G10 G ∧ G hd = some (.lst ps') ∧ Reps K (hide G W) ps' (hs'.map dH) ∧ hs'.length ≤ hs.length + 4) ?_ fun key => ?_
    rotate_left
    · refine ⟨_, rfl, _, rfl, _, rfl, _, rfl, smallE (by simp), fun q hq => ?_⟩
      have sq : Same G10 (upd G10 q (.tup [.ref D3, .ref D1, .ref D2, .ref D4])) := Same.new hq
      have eq0 : upd G10 q (.tup [.ref D3, .ref D1, .ref D2, .ref D4]) q = some (.tup [.ref D3, .ref D1, .ref D2, .ref D4]) := upd_same
      have qhd0 : q ≠ hd := (ne_of_none (s010 _ _ hhd) hq).symm
      generalize upd G10 q (.tup [.ref D3, .ref D1, .ref D2, .ref D4]) = G11 at sq eq0
      have s011 := s010.trans sq
      refine ⟨q, rfl, ⟨_, .of eq0⟩, for_tup (K := K) (a := q) (xs := [.ref D3, .ref D1, .ref D2, .ref D4]) (fun i σ G => ∃ (o10 : Option V) (ps' : List V) (hs' : List (List (List Int))), σ = [some (.ref p), some (.ref ta), some nv, some (.int (w : Int)), some (.ref hd), some (.ref t), some (.ref D3), some (.ref D1), some (.ref D2), some (.ref D4), o10] ∧ SameX hd G11 G ∧ G hd = some (.lst ps') ∧ Reps K (hide G W) ps' (hs'.map dH) ∧ hs'.length ≤ hs.length + i)
        ⟨none, ps, hs, rfl, SameX.refl _ _, s011 _ _ hhd, Reps.same (same_hid s011) rps, by omega⟩ (fun i σ G _ ⟨_, _, _, _, sx, _⟩ => .of (sx _ _ qhd0 eq0)) ?_ ?_⟩
      · rintro i v σ G hv ⟨o10, ps1, hs1, rfl, sx, hh1, rp, hle⟩
        have hi4 : i < 4 := (List.getElem?_eq_some_iff.mp hv).1
        obtain ⟨D, as, rows, rfl, tD, hrl, fD, nD⟩ := (all v (List.mem_of_getElem? hv)).ex
        have hDhd : D ≠ hd := fun z => by rw [z, hhd] at fD; cases fD
        have hnhd : ∀ c ∈ as, c ≠ hd := fun c hc z => by have := nD c hc; rw [z, hhd] at this; cases this
        have tG : TabAt G D as rows := ⟨sx _ _ hDhd (sq _ _ tD.at), tD.len, fun j a r e1 e2 => sx _ _ (hnhd a (List.mem_of_getElem? e1)) (sq _ _ (tD.row j a r e1 e2))⟩
        have kpG : ∀ c, H c ≠ none → G c ≠ none := fun c hc z => by
          by_cases hch : c = hd
          · rw [hch, hh1] at z; cases z
          · cases e : H c with
            | none => exact hc e
            | some o => rw [sx c o hch (s011 _ _ e)] at z; cases z
        have p1l : ps1.length = hs1.length := by have := rp.length; simpa using this
        refine ⟨_, rfl, .inl ⟨rfl, _, .of hh1⟩, _, rfl, _, rfl, .ref D, rows, rfl, tG.rep, hrl, fun D' as' G2 s2 n2' t2 nw2 => ⟨smallE (by simp), fun r hr1 => ?_⟩⟩
        have s3 : Same G2 (upd G2 r (.tup [.ref D, .ref D'])) := Same.new hr1
        have e3 : upd G2 r (.tup [.ref D, .ref D']) r = some (.tup [.ref D, .ref D']) := upd_same
        generalize upd G2 r (.tup [.ref D, .ref D']) = G3 at s3 e3
        have s23 := s2.trans s3
        refine ⟨hd, ps1, _, rfl, rfl, s23 _ _ hh1, small (by omega), ?_⟩
        have rG : G r = none := s2.free hr1
        have rhd : r ≠ hd := fun z => by rw [z, hh1] at rG; cases rG
        have r0 : H r = none := by
          cases e : H r with
          | none => rfl
          | some o => exact absurd rG (kpG r (by rw [e]; intro z; cases z))
        have dhd : D' ≠ hd := fun z => by rw [z, hh1] at n2'; cases n2'
        have ahd : ∀ c ∈ as', c ≠ hd := fun c hc z => by have := (nw2 c hc).1; rw [z, hh1] at this; cases this
        have sx3 : SameX hd G (upd G3 hd (.lst (ps1 ++ [.ref r]))) := SameX.upd (SameX.of s23)
        refine ⟨_, _, hs1 ++ [rows], rfl, sx.trans sx3, upd_same, ?_, by simp; omega⟩
        refine held_more hW rp (sx3.hid hWd) r0 (by rw [upd_ne rhd]; exact e3) (TabAt.hid (H0 := H) ((tG.same s23).put hDhd hnhd) hW fD nD) (TabAt.hid (H0 := G) ((t2.same s3).put dhd ahd) (fun c hc => kpG c (hW c hc)) n2' fun c hc => (nw2 c hc).1)
      · rintro σ G ⟨o10, ps1, hs1, rfl, sx, hh1, rp, hle⟩
        exact key _ _ ⟨o10, ps1, hs1, rfl, (SameX.of sq).trans sx, hh1, rp, hle⟩
    rintro _ G ⟨o10, ps1, hs1, rfl, sx, hh1, rp, hle⟩
    have sxH : SameX hd H G := (SameX.of s010).trans sx
    have shW : Same (hide H W) (hide G W) := sxH.hid hWd
    have nh : ∀ (D : Addr) (as : List Addr) (rows : List (List Int)), TabAt G10 D as rows → H D = none → (∀ c ∈ as, H c = none) → TabAt G D as rows := fun D as rows tD fD nD =>
      ⟨sx _ _ (fun z => by rw [z, hhd] at fD; cases fD) tD.at, tD.len, fun j a r e1 e2 => sx _ _ (fun z => by have := nD a (List.mem_of_getElem? e1); rw [z, hhd] at this; cases this) (tD.row j a r e1 e2)⟩
    have r3 : Rep K G (.ref D3) (dT h h S.l) := by rw [dT_dR]; exact (nh _ _ _ W3 f3 n3).rep
    have r2 : Rep K G (.ref D2) (dT w w fun i j => S.r j i) := by rw [dT_dR]; exact (nh _ _ _ W2 f2 n2).rep
    have rt : Rep K G (.ref ta) (dT h w S.T) := Rep.same hide_same (Rep.same shW rtv)
    have rn : Rep K G nv (dT h w g) := Rep.same hide_same (Rep.same shW rnv)
    refine ⟨_, rfl, _, rfl, _, rfl, .ref D3, .ref ta, h, h, w, S.l, S.T, rfl, r3, rt, by omega, by omega, by omega, fun i k j _ _ _ => mulok (bl1 i k) (bTT k j) (by omega), fun E1 es1 G1 hle1 Q1 => ?_⟩
    refine ⟨_, rfl, _, rfl, .ref E1, .ref D2, h, w, w, _, (fun i j => S.r j i), rfl, Q1.rep hle1, Rep.same Q1.same r2, by omega, by omega, by omega, fun i k j _ _ _ => mulok (bd_sum (m := B + B) fun q _ => bd_mul (bl1 i q) (bTT q k)) (br1 j k) (by omega), fun E2 es2 G2 hle2 Q2 => ?_⟩
    have e12 := Q1.same.trans Q2.same
    refine ⟨_, rfl, dT h w g, dT h w g, ?_, Rep.same e12 rn, dep_dT _ _ _, ?_⟩
    · rw [← dT_congr fun i j hi hj => (hfg i j hi hj)]
      rw [dT_congr fun i j hi hj => x.gd.now i j hi hj]
      exact Q2.rep hle2
    rw [eqD_refl]
    exact k ps1 hs1 G2 (sxH.trans (SameX.of e12)) (e12 _ _ hh1) (Reps.same (same_hid e12) rp) hle
abbrev s_check_turn : Stmt := top 26
theorem sc_check_turn : FnScope ["thing", "many"] ["thing", "many"] (defScope s_check_turn) := ⟨rfl, rfl, rfl, by decide +kernel, rfl, by decide +kernel, by decide +kernel⟩
theorem ok_check_turn {f : Addr} {fd : FuncData} (F : Fun K "check_turn" "check_turn" s_check_turn f fd) (T : Txt K mg C_NoTurn C_Lines C_Turner) (h_is_turn : Has P w K mg base "is_turn" ["thing", "many"] 4 (sp_is_turn K)) : FnOk P w K mg base CX0 5 f fd ["thing", "many"] (sp_check_turn K) := by
  refine F.ok sc_check_turn (fun vs H Q E h => ?_) (fun cdv A outer s H vs Q E hr h => ?_)
  · obtain ⟨u, t, m, rfl, hu, hok, k⟩ := h
    rfl
  · obtain ⟨u, t, m, rfl, hu, hok, k⟩ := h
    refine ⟨_, (pss_one (ps_if (pt_not (pt_val (pe_callH h_is_turn hr (by rfl) (pa_cons (pv 0) (pa_cons (pv 1) pa_nil))))) (pss_one ps_never) pss_nil)), ?_⟩
    refine ⟨_, rfl, _, rfl, u, t, m, rfl, hu, hok, _, rfl, ?_⟩
    refine ifN (by simp) ?_
    exact k
abbrev s_Turner_take_back : Stmt := inClass (top 27) 5
theorem sc_Turner_take_back : FnScope ["self", "last"] ["self"] (defScope s_Turner_take_back) := ⟨rfl, rfl, rfl, by decide +kernel, rfl, by decide +kernel, by decide +kernel⟩
theorem nd_Turner_take_back : (["self", "last"] : List Str).Nodup := by decide +kernel

theorem ok_Turner_take_back {f : Addr} {fd : FuncData} (F : Fun K "take_back" "Turner.take_back" s_Turner_take_back f fd) (T : Txt K mg C_NoTurn C_Lines C_Turner) (hm_Turner_do_rows : HasM P w K mg base C_Turner "do_rows" ["self", "turn"] 4 (spW_do_rows K C_Lines C_Turner)) (hm_Turner_do_columns : HasM P w K mg base C_Turner "do_columns" ["self", "turn"] 4 (spW_do_columns K C_Lines C_Turner)) (h_back_of : Has P w K mg base "back_of" ["turn"] 1 (sp_back_of K)) : FnOk P w K mg base (CX1 P w) 5 f fd ["self"] (spW_take_back K C_Lines C_Turner C_NoTurn) := by
  refine F.okX sc_Turner_take_back (fun vs H Q E h => ?_) (fun cdv A outer s H vs Q E hr h => ?_)
  · obtain ⟨p, L, R, dn, Z, h, w, B, S, ds1, rfl, x, hB, kE, kQ⟩ := h
    rfl
  · obtain ⟨p, L, R, dn, Z, h, w, B, S, ds1, rfl, x, hB, kE, kQ⟩ := h
    refine ⟨_, (pss_cons (ps_if (pt_cmpR op_eq (pe_callB (kcall_len_seq (K := K)) (by rfl) T.n_len PySem.boot_len (pa_cons (kpe_fld (K := K) (pv 0)) pa_nil)) pe_int (nomark _)) (pss_one (ps_raise makes_def (by rfl) (by rfl) T.m_NoTurn T.e_NoTurn (pa_cons pe_str pa_nil))) pss_nil)
      (pss_cons (ps_set (i := 1) nd_Turner_take_back (by rfl) (by first | exact Or.inl rfl | exact Or.inr rfl) (kpe_bm0 (K := K) PySem.F.plainAttrs_list PySem.F.slot_list_pop PySem.F.type_list_pop mt_pop (kpe_fld (K := K) (pv 0))))
      (pss_one (ps_if (pt_val (pe_ix (kix_tup (K := K)) (pv 1) pe_int (fun _ _ => rfl))) (pss_one (ps_expr (pe_methH (pv 0) T.cl_Turner hm_Turner_do_rows hr (pa_cons (pe_callH h_back_of hr (by rfl) (pa_cons (pe_ix (kix_tup (K := K)) (pv 1) pe_int (fun _ _ => rfl)) pa_nil)) pa_nil)))) (pss_one (ps_expr (pe_methH (pv 0) T.cl_Turner hm_Turner_do_columns hr (pa_cons (pe_callH h_back_of hr (by rfl) (pa_cons (pe_ix (kix_tup (K := K)) (pv 1) pe_int (fun _ _ => rfl)) pa_nil)) pa_nil)))))))), ?_⟩
    rcases List.eq_nil_or_concat ds1 with rfl | ⟨ds, q, e1⟩
    · obtain ⟨tb, ⟨dx, fs, hp, l1, l2, l3, l4, l5, ⟨m1, m2, m3, m4, m5, m6, m7, m8⟩, l6⟩, hrep⟩ := x.ob
      obtain ⟨us, hdn, hrs⟩ := x.dl
      cases (show us = [] from hrs)
      refine ⟨_, rfl, p, C_Turner, dx, fs, _, rfl, hp, T.cl_Turner, T.na_Turner_done, l5, dn, _, rfl, .inl (.of hdn), rfl, _, rfl, ?_⟩
      refine ifP (isI (by simp)) ?_
      exact ⟨smallE (by simp), kE rfl⟩
    rw [List.concat_eq_append] at e1
    subst e1
    have k := kQ ds q rfl
    
    obtain ⟨tb, ⟨dx, fs, hp, l1, l2, l3, l4, l5, ⟨m1, m2, m3, m4, m5, m6, m7, m8⟩, l6⟩, hrep⟩ := x.ob
    obtain ⟨sm1, sm2, sm3⟩ := x.sm
    obtain ⟨n1, n2, n3, n4, n5, n6⟩ := x.ne
    obtain ⟨us, hdn, hrs⟩ := x.dl
    rw [List.map_append] at hrs
    obtain ⟨us0, y, rfl, hrs0, ry⟩ := reps_snoc hrs
    obtain ⟨hq1, hq2⟩ := x.bd q (by simp)
    obtain ⟨b, t⟩ := q
    obtain ⟨ya, _, rfl, hY, _, _, rfl, rfl, v, _, rfl, hv, rfl⟩ := ry
    refine ⟨_, rfl, p, C_Turner, dx, fs, _, rfl, hp, T.cl_Turner, T.na_Turner_done, l5, dn, _, rfl, .inl (.of hdn), rfl, _, rfl, ?_⟩
    refine ifN (noI (by simp; omega)) ?_
    refine ⟨_, rfl, p, C_Turner, dx, fs, _, rfl, hp, T.cl_Turner, T.na_Turner_done, l5, .inl ⟨rfl, _, .of hdn⟩, dn, _, .ref ya, rfl, rfl, hdn, by simp, ?_⟩
    rw [List.dropLast_concat]
    have x2 : TurnerW K C_Lines C_Turner (upd H dn (.lst us0)) Z p L R dn h w S ds B := x.redone hrs0 (fun q hq => x.bd q (by simp [hq])) (by simp at sm3; omega)
    have hp2 : (upd H dn (.lst us0)) p = some (.ins C_Turner dx fs) := by rw [upd_ne n3]; exact hp
    have ts : TSame H (upd H dn (.lst us0)) := TSame.lst hdn
    have hY2 : SqT K (upd H dn (.lst us0)) ya [.bl b, v] := hY.t ts
    have hv2 : Rep K (upd H dn (.lst us0)) v (dTn t) := Rep.t ts (imm_dTn t) hv
    have fr2 : Fr4 p L R dn H (upd H dn (.lst us0)) := fun a o _ _ _ a4 e => by rw [upd_ne a4]; exact e
    generalize upd H dn (.lst us0) = H2 at x2 hp2 ts hY2 hv2 fr2
    cases b with
    | true =>
      refine ⟨_, rfl, ya, _, _, _, rfl, rfl, hY2, rfl, _, rfl, ?_⟩
      refine ifP rfl ?_
      refine ⟨_, rfl, p, dx, fs, rfl, hp2, m3, _, rfl, ya, _, _, _, rfl, rfl, hY2, rfl, v, t, rfl, hv2, fun v2 H3 s3 hv3 => ?_⟩
      refine ⟨p, L, R, dn, v2, Z, h, w, B, S, ds, tnB t, rfl, x2.same s3, hv3, okTn_back hq2, hq1.back, hB, fun H4 fr4 x4 => ?_⟩
      exact k H4 (fr2.trans ((Fr4.of s3).trans fr4)) x4
    | false =>
      refine ⟨_, rfl, ya, _, _, _, rfl, rfl, hY2, rfl, _, rfl, ?_⟩
      refine ifN (by decide) ?_
      refine ⟨_, rfl, p, dx, fs, rfl, hp2, m4, _, rfl, ya, _, _, _, rfl, rfl, hY2, rfl, v, t, rfl, hv2, fun v2 H3 s3 hv3 => ?_⟩
      refine ⟨p, L, R, dn, v2, Z, h, w, B, S, ds, tnB t, rfl, x2.same s3, hv3, okTn_back hq2, hq1.back, hB, fun H4 fr4 x4 => ?_⟩
      exact k H4 (fr2.trans ((Fr4.of s3).trans fr4)) x4
abbrev s_Turner_turn_rows : Stmt := inClass (top 27) 1
theorem sc_Turner_turn_rows : FnScope ["self", "thing"] ["self", "thing"] (defScope s_Turner_turn_rows) := ⟨rfl, rfl, rfl, by decide +kernel, rfl, by decide +kernel, by decide +kernel⟩
theorem ok_Turner_turn_rows {f : Addr} {fd : FuncData} (F : Fun K "turn_rows" "Turner.turn_rows" s_Turner_turn_rows f fd) (T : Txt K mg C_NoTurn C_Lines C_Turner) (h_check_turn : Has P w K mg base "check_turn" ["thing", "many"] 5 (sp_check_turn K)) (hm_Turner_do_rows : HasM P w K mg base C_Turner "do_rows" ["self", "turn"] 4 (spW_do_rows K C_Lines C_Turner)) : FnOk P w K mg base CX0 6 f fd ["self", "thing"] (spW_turn_rows K C_Lines C_Turner) := by
  refine F.ok sc_Turner_turn_rows (fun vs H Q E h => ?_) (fun cdv A outer s H vs Q E hr h => ?_)
  · obtain ⟨p, L, R, dn, u, Z, h, w, B, S, ds, t, rfl, x, hu, hok, bt, hB, hlen, k⟩ := h
    rfl
  · obtain ⟨p, L, R, dn, u, Z, h, w, B, S, ds, t, rfl, x, hu, hok, bt, hB, hlen, k⟩ := h
    refine ⟨_, (pss_cons (ps_expr (pe_callH h_check_turn hr (by rfl) (pa_cons (pv 1) (pa_cons (pe_callB (kcall_len_seq (K := K)) (by rfl) T.n_len PySem.boot_len (pa_cons (kpe_fld (K := K) (pv 0)) pa_nil)) pa_nil))))
      (pss_cons (ps_expr (pe_methH (pv 0) T.cl_Turner hm_Turner_do_rows hr (pa_cons (pv 1) pa_nil)))
      (pss_one (ps_expr (kpe_bm (K := K) PySem.F.plainAttrs_list PySem.F.slot_list_append PySem.F.type_list_append mt_append (kpe_fld (K := K) (pv 0)) (pa_cons (pe_tup (pa_cons pe_bl (pa_cons (pv 1) pa_nil))) pa_nil)))))), ?_⟩
    obtain ⟨sm1, sm2, sm3⟩ := x.sm
    obtain ⟨n1, n2, n3, n4, n5, n6⟩ := x.ne
    obtain ⟨tb, ⟨dx, fs, hp, l1, l2, l3, l4, l5, ⟨m1, m2, m3, m4, m5, m6, m7, m8⟩, l6⟩, hrep⟩ := x.ob
    obtain ⟨ta, us0, rfl, hqa, hul, _⟩ := dT_sq (Rep.same hide_same hrep)
    refine ⟨_, rfl, _, rfl, p, C_Turner, dx, fs, _, rfl, hp, T.cl_Turner, T.na_Turner_table, l1, ta, us0, rfl, .inl hqa, u, t, h, (by rw [hul] <;> rfl), hu, hok, ?_⟩
    refine ⟨_, rfl, p, dx, fs, rfl, hp, m3, _, rfl, p, L, R, dn, u, Z, h, w, B, S, ds, t, rfl, x, hu, hok, bt, hB, fun H1 fr1 x1 => ?_⟩
    obtain ⟨tb1, ⟨dx1, fs1, hp1, _, _, _, _, l51, _, _⟩, _⟩ := x1.ob
    obtain ⟨us, hdn, hrs⟩ := x1.dl
    have usl : us.length = ds.length := by have := hrs.length; simpa using this
    refine ⟨_, rfl, p, C_Turner, dx1, fs1, _, rfl, hp1, T.cl_Turner, T.na_Turner_done, l51, .inl ⟨rfl, _, .of hdn⟩, _, rfl, smallE (by simp), fun T1 hT1 => ?_⟩
    have s2 : Same H1 (upd H1 T1 (.tup [.bl true, u])) := Same.new hT1
    refine ⟨dn, us, _, rfl, rfl, s2 _ _ hdn, small (by omega), ?_⟩
    have x2 := x1.same s2
    have hu2 : Rep K (upd H1 T1 (.tup [.bl true, u])) u (dTn t) := Rep.same s2 (Rep.t (x.t fr1) (imm_dTn t) hu)
    have hrs2 : Reps K (upd H1 T1 (.tup [.bl true, u])) (us ++ [.ref T1]) ((ds ++ [(true, t)]).map dDone) := by
      rw [List.map_append]
      exact (Reps.same s2 hrs).snoc ⟨T1, _, rfl, .of upd_same, ⟨_, _, rfl, rfl, _, _, rfl, hu2, rfl⟩⟩
    refine k _ (fun a o a1 a2 a3 a4 e => by rw [upd_ne a4]; exact s2 _ _ (fr1 a o a1 a2 a3 a4 e)) (x2.redone hrs2 (fun q hq => ?_) (by simp; omega))
    rcases List.mem_append.mp hq with hq | hq
    · exact x1.bd q hq
    · have e : q = (true, t) := by simpa using hq
      subst e
      exact ⟨bt, hok⟩
abbrev s_Turner_turn_columns : Stmt := inClass (top 27) 2
theorem sc_Turner_turn_columns : FnScope ["self", "thing"] ["self", "thing"] (defScope s_Turner_turn_columns) := ⟨rfl, rfl, rfl, by decide +kernel, rfl, by decide +kernel, by decide +kernel⟩
theorem ok_Turner_turn_columns {f : Addr} {fd : FuncData} (F : Fun K "turn_columns" "Turner.turn_columns" s_Turner_turn_columns f fd) (T : Txt K mg C_NoTurn C_Lines C_Turner) (h_check_turn : Has P w K mg base "check_turn" ["thing", "many"] 5 (sp_check_turn K)) (hm_Turner_do_columns : HasM P w K mg base C_Turner "do_columns" ["self", "turn"] 4 (spW_do_columns K C_Lines C_Turner)) : FnOk P w K mg base CX0 6 f fd ["self", "thing"] (spW_turn_columns K C_Lines C_Turner) := by
  refine F.ok sc_Turner_turn_columns (fun vs H Q E h => ?_) (fun cdv A outer s H vs Q E hr h => ?_)
  · obtain ⟨p, L, R, dn, u, Z, h, w, B, S, ds, t, rfl, x, hu, hok, bt, hB, hlen, k⟩ := h
    rfl
  · obtain ⟨p, L, R, dn, u, Z, h, w, B, S, ds, t, rfl, x, hu, hok, bt, hB, hlen, k⟩ := h
    refine ⟨_, (pss_cons (ps_expr (pe_callH h_check_turn hr (by rfl) (pa_cons (pv 1) (pa_cons (kpe_fld (K := K) (pv 0)) pa_nil))))
      (pss_cons (ps_expr (pe_methH (pv 0) T.cl_Turner hm_Turner_do_columns hr (pa_cons (pv 1) pa_nil)))
      (pss_one (ps_expr (kpe_bm (K := K) PySem.F.plainAttrs_list PySem.F.slot_list_append PySem.F.type_list_append mt_append (kpe_fld (K := K) (pv 0)) (pa_cons (pe_tup (pa_cons pe_bl (pa_cons (pv 1) pa_nil))) pa_nil)))))), ?_⟩
    obtain ⟨sm1, sm2, sm3⟩ := x.sm
    obtain ⟨n1, n2, n3, n4, n5, n6⟩ := x.ne
    obtain ⟨tb, ⟨dx, fs, hp, l1, l2, l3, l4, l5, ⟨m1, m2, m3, m4, m5, m6, m7, m8⟩, l6⟩, hrep⟩ := x.ob
    refine ⟨_, rfl, _, rfl, p, C_Turner, dx, fs, _, rfl, hp, T.cl_Turner, T.na_Turner_width, l2, u, t, w, rfl, hu, hok, ?_⟩
    refine ⟨_, rfl, p, dx, fs, rfl, hp, m4, _, rfl, p, L, R, dn, u, Z, h, w, B, S, ds, t, rfl, x, hu, hok, bt, hB, fun H1 fr1 x1 => ?_⟩
    obtain ⟨tb1, ⟨dx1, fs1, hp1, _, _, _, _, l51, _, _⟩, _⟩ := x1.ob
    obtain ⟨us, hdn, hrs⟩ := x1.dl
    have usl : us.length = ds.length := by have := hrs.length; simpa using this
    refine ⟨_, rfl, p, C_Turner, dx1, fs1, _, rfl, hp1, T.cl_Turner, T.na_Turner_done, l51, .inl ⟨rfl, _, .of hdn⟩, _, rfl, smallE (by simp), fun T1 hT1 => ?_⟩
    have s2 : Same H1 (upd H1 T1 (.tup [.bl false, u])) := Same.new hT1
    refine ⟨dn, us, _, rfl, rfl, s2 _ _ hdn, small (by omega), ?_⟩
    have x2 := x1.same s2
    have hu2 : Rep K (upd H1 T1 (.tup [.bl false, u])) u (dTn t) := Rep.same s2 (Rep.t (x.t fr1) (imm_dTn t) hu)
    have hrs2 : Reps K (upd H1 T1 (.tup [.bl false, u])) (us ++ [.ref T1]) ((ds ++ [(false, t)]).map dDone) := by
      rw [List.map_append]
      exact (Reps.same s2 hrs).snoc ⟨T1, _, rfl, .of upd_same, ⟨_, _, rfl, rfl, _, _, rfl, hu2, rfl⟩⟩
    refine k _ (fun a o a1 a2 a3 a4 e => by rw [upd_ne a4]; exact s2 _ _ (fr1 a o a1 a2 a3 a4 e)) (x2.redone hrs2 (fun q hq => ?_) (by simp; omega))
    rcases List.mem_append.mp hq with hq | hq
    · exact x1.bd q hq
    · have e : q = (false, t) := by simpa using hq
      subst e
      exact ⟨bt, hok⟩
abbrev s_L_back : Stmt := top 43
theorem sc_L_back : FnScope ["_law_turner", "_law_told"] ["_law_turner"] (defScope s_L_back) := ⟨rfl, rfl, rfl, by decide +kernel, rfl, by decide +kernel, by decide +kernel⟩
theorem nd_L_back : (["_law_turner", "_law_told"] : List Str).Nodup := by decide +kernel

theorem ok_L_back {f : Addr} {fd : FuncData} (F : Fun K "_law_back" "_law_back" s_L_back f fd) (T : Txt K mg C_NoTurn C_Lines C_Turner) (hmx_Turner_take_back : HasMX P w K mg base C_Turner "take_back" ["self"] 5 (spW_take_back K C_Lines C_Turner C_NoTurn)) : FnOk P w K mg base CX0 6 f fd ["_law_turner"] (spW_back K C_Lines C_Turner) := by
  refine F.ok sc_L_back (fun vs H Q E h => ?_) (fun cdv A outer s H vs Q E hr h => ?_)
  · obtain ⟨p, L, R, dn, Z, h, w, B, S, ds, rfl, x, hB, k0, k1⟩ := h
    rfl
  · obtain ⟨p, L, R, dn, Z, h, w, B, S, ds, rfl, x, hB, k0, k1⟩ := h
    refine ⟨_, (pss_cons (ps_set (i := 1) nd_L_back (by rfl) (by first | exact Or.inl rfl | exact Or.inr rfl) pe_int)
      (pss_cons (ps_try (fun _ _ => (pss_one (ps_expr (pe_methX0 flies_tried (pv 0) T.cl_Turner hmx_Turner_take_back hr))))
      (ph_bare (by rfl) T.m_NoTurn T.k_NoTurn (fun _ => (pss_one (ps_set (i := 1) nd_L_back (by rfl) (by first | exact Or.inl rfl | exact Or.inr rfl) pe_int)))
      ph_none))
      (pss_one (ps_ret (pv 1))))), ?_⟩
    obtain ⟨tb, ⟨dx, fs, hp, l1, l2, l3, l4, l5, ⟨m1, m2, m3, m4, m5, m6, m7, m8⟩, l6⟩, hrep⟩ := x.ob
    refine tSeq_cut (fun σ' H' => σ' = [some (.ref p), some (.int 0)] ∧ H = H') ?_ fun key0 => key0 _ _ ⟨rfl, rfl⟩
    rintro _ _ ⟨rfl, rfl⟩
    refine tSeq_cut (fun σ' H' => (σ' = [some (.ref p), some (.int 1)] ∧ ds = [] ∧ H = H') ∨ (σ' = [some (.ref p), some (.int 0)] ∧ ∃ ds0 q, ds = ds0 ++ [q] ∧ Fr4 p L R dn H H' ∧ TurnerW K C_Lines C_Turner H' Z p L R dn h w (S.tk q) ds0 (B + 4))) ?_ fun key => ?_
    rotate_left
    · refine ⟨_, rfl, p, dx, fs, rfl, hp, m5, p, L, R, dn, Z, h, w, B, S, ds, rfl, x, hB, fun hd => ?_, fun ds0 q e H1 fr1 x1 => key _ _ (.inr ⟨rfl, ds0, q, e, fr1, x1⟩)⟩
      refine ⟨C_NoTurn, true, rfl, T.s_NoTurn_NoTurn, ?_⟩
      refine ifP rfl ?_
      exact key _ _ (.inl ⟨rfl, hd, rfl⟩)
    rintro σ1 H1 alt
    rcases alt with ⟨rfl, hd, rfl⟩ | ⟨rfl, ds0, q, e, fr1, x1⟩
    · exact ⟨_, rfl, k0 hd H (Same.refl H)⟩
    · exact ⟨_, rfl, k1 ds0 q e H1 fr1 x1⟩
abbrev s_L_do : Stmt := top 42
theorem sc_L_do : FnScope ["_law_turner", "_law_of_rows", "_law_turn"] ["_law_turner", "_law_of_rows", "_law_turn"] (defScope s_L_do) := ⟨rfl, rfl, rfl, by decide +kernel, rfl, by decide +kernel, by decide +kernel⟩
theorem ok_L_do {f : Addr} {fd : FuncData} (F : Fun K "_law_do" "_law_do" s_L_do f fd) (T : Txt K mg C_NoTurn C_Lines C_Turner) (hm_Turner_turn_columns : HasM P w K mg base C_Turner "turn_columns" ["self", "thing"] 6 (spW_turn_columns K C_Lines C_Turner)) (hm_Turner_turn_rows : HasM P w K mg base C_Turner "turn_rows" ["self", "thing"] 6 (spW_turn_rows K C_Lines C_Turner)) : FnOk P w K mg base CX0 7 f fd ["_law_turner", "_law_of_rows", "_law_turn"] (spW_do K C_Lines C_Turner) := by
  refine F.ok sc_L_do (fun vs H Q E h => ?_) (fun cdv A outer s H vs Q E hr h => ?_)
  · obtain ⟨p, L, R, dn, u, Z, h, w, B, S, ds, b, t, rfl, x, hu, hok, bt, hB, hl, k⟩ := h
    rfl
  · obtain ⟨p, L, R, dn, u, Z, h, w, B, S, ds, b, t, rfl, x, hu, hok, bt, hB, hl, k⟩ := h
    refine ⟨_, (pss_cons (ps_if (pt_val (pv 1)) (pss_one (ps_ret (pe_methH (pv 0) T.cl_Turner hm_Turner_turn_rows hr (pa_cons (pv 2) pa_nil)))) pss_nil)
      (pss_one (ps_ret (pe_methH (pv 0) T.cl_Turner hm_Turner_turn_columns hr (pa_cons (pv 2) pa_nil))))), ?_⟩
    obtain ⟨tb, ⟨dx, fs, hp, l1, l2, l3, l4, l5, ⟨m1, m2, m3, m4, m5, m6, m7, m8⟩, l6⟩, hrep⟩ := x.ob
    refine ⟨_, rfl, _, rfl, ?_⟩
    cases b with
    | true =>
      refine ifP rfl ?_
      refine ⟨_, rfl, p, dx, fs, rfl, hp, m1, _, rfl, p, L, R, dn, u, Z, h, w, B, S, ds, t, rfl, x, hu, hok, bt, hB, hl, k⟩
    | false =>
      refine ifN (by decide) ?_
      refine ⟨_, rfl, p, dx, fs, rfl, hp, m2, _, rfl, p, L, R, dn, u, Z, h, w, B, S, ds, t, rfl, x, hu, hok, bt, hB, hl, k⟩
abbrev s_law : Stmt := top 47
theorem sc_law : FnScope ["_law_script", "_law_height", "_law_width", "_law_table", "_law_turner", "_law_other", "_law_states", "_law_held", "_law_cell", "_law_of_rows", "_law_lines", "_law_turn", "_law_told", "_law_kept"] ["_law_script"] (defScope s_law) := ⟨rfl, rfl, rfl, by decide +kernel, rfl, by decide +kernel, by decide +kernel⟩
theorem nd_law : (["_law_script", "_law_height", "_law_width", "_law_table", "_law_turner", "_law_other", "_law_states", "_law_held", "_law_cell", "_law_of_rows", "_law_lines", "_law_turn", "_law_told", "_law_kept"] : List Str).Nodup := by decide +kernel

theorem ok_law {f : Addr} {fd : FuncData} (F : Fun K "law" "law" s_law f fd) (T : Txt K mg C_NoTurn C_Lines C_Turner) (h_L_table_by : Has P w K mg base "_law_table_by" ["_law_script", "_law_begin", "_law_height", "_law_width", "_law_kind"] 2 (sp_L_table_by K)) (hc_Turner : HasC P w K mg base C_Turner ["self", "table", "width"] 4 (spW_init K C_Lines C_Turner)) (h_L_cell_at : Has P w K mg base "_law_cell_at" ["_law_script", "_law_k"] 1 (sp_L_cell_at K)) (h_L_copy : Has P w K mg base "_law_copy" ["_law_table"] 1 (spW_copy K)) (h_L_turn_by : Has P w K mg base "_law_turn_by" ["_law_cell", "_law_lines", "_law_number"] 1 (sp_L_turn_by K)) (h_L_papers_hold : Has P w K mg base "_law_papers_hold" ["_law_turner", "_law_table", "_law_now", "_law_width", "_law_held"] 4 (spW_papers_hold K C_Lines C_Turner)) (h_L_now_is : Has P w K mg base "_law_now_is" ["_law_turner", "_law_states", "_law_width", "_law_held"] 3 (spW_now_is K C_Lines C_Turner)) (hm_Turner_now : HasM P w K mg base C_Turner "now" ["self"] 2 (spW_now K C_Lines C_Turner)) (hm_Turner_many : HasM P w K mg base C_Turner "many" ["self"] 1 (spW_many K C_Lines C_Turner)) (h_L_back : Has P w K mg base "_law_back" ["_law_turner"] 6 (spW_back K C_Lines C_Turner)) (h_L_do : Has P w K mg base "_law_do" ["_law_turner", "_law_of_rows", "_law_turn"] 7 (spW_do K C_Lines C_Turner)) (h_L_turned : Has P w K mg base "_law_turned" ["_law_table", "_law_width", "_law_of_rows", "_law_turn"] 3 (sp_L_turned K)) : FnOk P w K mg base CX0 8 f fd ["_law_script"] (sp_lawB K) := by
  refine F.ok sc_law (fun vs H Q E h => ?_) (fun cdv A outer s H vs Q E hr h => ?_)
  · obtain ⟨a, ns, rfl, hS, hl, hbit, k⟩ := h
    rfl
  · obtain ⟨a, ns, rfl, hS, hl, hbit, k⟩ := h
    have hu8 : (A.deeper (PyProof.Rows.envOfC "law" (defScope s_law) s.heap.objs.size f cdv)).units + 8 < cLine := by have := hr.units; omega
    refine ⟨_, (pss_cons (ps_set (i := 1) nd_law (by rfl) (by first | exact Or.inl rfl | exact Or.inr rfl) (pe_op op_mod (pe_callH h_L_cell_at hr (by rfl) (pa_cons (pv 0) (pa_cons pe_int pa_nil))) pe_int))
      (pss_cons (ps_set (i := 2) nd_law (by rfl) (by first | exact Or.inl rfl | exact Or.inr rfl) (pe_op op_mod (pe_callH h_L_cell_at hr (by rfl) (pa_cons (pv 0) (pa_cons pe_int pa_nil))) pe_int))
      (pss_cons (ps_set (i := 3) nd_law (by rfl) (by first | exact Or.inl rfl | exact Or.inr rfl) (pe_callH h_L_table_by hr (by rfl) (pa_cons (pv 0) (pa_cons pe_int (pa_cons (pv 1) (pa_cons (pv 2) (pa_cons (pe_callH h_L_cell_at hr (by rfl) (pa_cons (pv 0) (pa_cons pe_int pa_nil))) pa_nil)))))))
      (pss_cons (ps_set (i := 4) nd_law (by rfl) (by first | exact Or.inl rfl | exact Or.inr rfl) (pe_makeH hc_Turner hr (by rfl) T.m_Turner (pa_cons (pe_callH h_L_copy hr (by rfl) (pa_cons (pv 3) pa_nil)) (pa_cons (pv 2) pa_nil))))
      (pss_cons (ps_set (i := 5) nd_law (by rfl) (by first | exact Or.inl rfl | exact Or.inr rfl) (pe_makeH hc_Turner hr (by rfl) T.m_Turner (pa_cons (pe_callH h_L_copy hr (by rfl) (pa_cons (pv 3) pa_nil)) (pa_cons (pv 2) pa_nil))))
      (pss_cons (ps_set (i := 6) nd_law (by rfl) (by first | exact Or.inl rfl | exact Or.inr rfl) (pe_lst (pa_cons (pv 3) pa_nil)))
      (pss_cons (ps_set (i := 7) nd_law (by rfl) (by first | exact Or.inl rfl | exact Or.inr rfl) (pe_lst pa_nil))
      (pss_cons (ps_for PassesOwn.never rfl (kpi_list (K := K) (pe_slice (ksl_list (K := K)) (pv 0) (po_some pe_int) (po_some pe_int))) (pg_name (i := 8) nd_law (by rfl) (by first | exact Or.inl rfl | exact Or.inr rfl)) (pss_cons (ps_set (i := 9) nd_law (by rfl) (by first | exact Or.inl rfl | exact Or.inr rfl) (pe_cmpR op_eq (pe_op op_mod (pe_op op_fdiv (pv 8) pe_int) pe_int) pe_int (nomark _)))
      (pss_cons (ps_set (i := 10) nd_law (by rfl) (by first | exact Or.inl rfl | exact Or.inr rfl) (pv 2))
      (pss_cons (ps_if (pt_val (pv 9)) (pss_one (ps_set (i := 10) nd_law (by rfl) (by first | exact Or.inl rfl | exact Or.inr rfl) (pv 1))) pss_nil)
      (pss_cons (ps_set (i := 11) nd_law (by rfl) (by first | exact Or.inl rfl | exact Or.inr rfl) (pe_callH h_L_turn_by hr (by rfl) (pa_cons (pe_op op_fdiv (pv 8) pe_int) (pa_cons (pv 10) (pa_cons (pe_op op_sub (pe_op op_mod (pe_op op_mod (pe_op op_mulX (pv 8) pe_int) pe_int) pe_int) pe_int) pa_nil)))))
      (pss_cons (ps_if (pt_cmpR op_eq (pe_op op_mod (pv 8) pe_int) pe_int (nomark _)) (pss_cons (ps_if (pt_cmpR op_ne (pe_callH h_L_back hr (by rfl) (pa_cons (pv 4) pa_nil)) (pe_callTy call_int1 (by rfl) T.n_int boot_intT (pa_cons (pe_cmpR op_eq (pe_callB (kcall_len_seq (K := K)) (by rfl) T.n_len PySem.boot_len (pa_cons (pv 6) pa_nil)) pe_int (nomark _)) pa_nil)) (nomark _)) (pss_one (ps_ret pe_bl)) pss_nil)
      (pss_one (ps_set (i := 6) nd_law (by rfl) (by first | exact Or.inl rfl | exact Or.inr rfl) (pe_slice (ksl_list (K := K)) (pv 6) po_none (po_some (pe_callB (call_max2 (by rfl)) (by rfl) T.n_max boot_maxB (pa_cons pe_int (pa_cons (pe_op op_sub (pe_callB (kcall_len_seq (K := K)) (by rfl) T.n_len PySem.boot_len (pa_cons (pv 6) pa_nil)) pe_int) pa_nil)))))))) (pss_one (ps_if (pt_cmpR op_notN (pv 11) pe_non (nomark _)) (pss_cons (ps_if (pt_cmpR op_notN (pe_callH h_L_do hr (by rfl) (pa_cons (pv 4) (pa_cons (pv 9) (pa_cons (pv 11) pa_nil)))) pe_non (nomark _)) (pss_one (ps_ret pe_bl)) pss_nil)
      (pss_one (ps_set (i := 6) nd_law (by rfl) (by first | exact Or.inl rfl | exact Or.inr rfl) (pe_op (kop_catLW (K := K)) (pv 6) (pe_lst (pa_cons (pe_callH h_L_turned hr (by rfl) (pa_cons (pe_ix (kix_list (K := K)) (pv 6) (pe_un un_neg pe_int) (fun _ _ => rfl)) (pa_cons (pv 2) (pa_cons (pv 9) (pa_cons (pv 11) pa_nil))))) pa_nil)))))) pss_nil)))
      (pss_cons (ps_if (pt_not (pt_val (pe_callH h_L_now_is hr (by rfl) (pa_cons (pv 4) (pa_cons (pv 6) (pa_cons (pv 2) (pa_cons (pv 7) pa_nil))))))) (pss_one (ps_ret pe_bl)) pss_nil)
      (pss_one (ps_if (PW.pt (pw_and (pt_cmpR op_eq (pe_op op_mod (pe_op op_fdiv (pv 8) pe_int) pe_int) pe_int (nomark _)) (pw_and1 (pt_not (pt_val (pe_callH h_L_papers_hold hr (by rfl) (pa_cons (pv 4) (pa_cons (pv 3) (pa_cons (pe_ix (kix_list (K := K)) (pv 6) (pe_un un_neg pe_int) (fun _ _ => rfl)) (pa_cons (pv 2) (pa_cons (pv 7) pa_nil))))))))))) (pss_one (ps_ret pe_bl)) pss_nil)))))))))
      (pss_cons (ps_if (pt_not (pt_val (pe_callH h_L_papers_hold hr (by rfl) (pa_cons (pv 4) (pa_cons (pv 3) (pa_cons (pe_ix (kix_list (K := K)) (pv 6) (pe_un un_neg pe_int) (fun _ _ => rfl)) (pa_cons (pv 2) (pa_cons (pv 7) pa_nil)))))))) (pss_one (ps_ret pe_bl)) pss_nil)
      (pss_cons (ps_if (PW.pt (pw_or (pt_cmpR (kop_neD (K := K) hu8) (pe_methH0 (pv 5) T.cl_Turner hm_Turner_now hr) (pv 3) (nomark _)) (pw_or1 (pt_cmpR op_ne (pe_methH0 (pv 5) T.cl_Turner hm_Turner_many hr) pe_int (nomark _))))) (pss_one (ps_ret pe_bl)) pss_nil)
      (pss_cons (ps_for PassesOwn.never rfl (kpi_list (K := K) (pv 7)) (kpg_tup (K := K) (n := 2) (by rfl) (pgs_cons (pg_name (i := 12) nd_law (by rfl) (by first | exact Or.inl rfl | exact Or.inr rfl)) (pgs_cons (pg_name (i := 13) nd_law (by rfl) (by first | exact Or.inl rfl | exact Or.inr rfl)) pgs_nil))) (pss_one (ps_if (pt_cmpR (kop_neD (K := K) hu8) (pv 12) (pv 13) (nomark _)) (pss_one (ps_ret pe_bl)) pss_nil)))
      (pss_one (ps_ret pe_bl))))))))))))), ?_⟩
    have p5 : (0 : Int) < 5 := by decide
    refine tSeq_cut (fun σ' H' => ∃ (t : Int), σ' = [some (.ref a), some (.int t), none, none, none, none, none, none, none, none, none, none, none, none] ∧ H = H' ∧ 0 ≤ t ∧ t < 5) ?_ fun key => ?_
    rotate_left
    · exact ⟨_, rfl, a, ns, 0, rfl, hS, by decide, hl, _, _, rfl, rfl, p5, key _ _ ⟨_, rfl, rfl, Int.emod_nonneg _ (by decide), Int.emod_lt_of_pos _ (by decide)⟩⟩
    rintro _ _ ⟨t1, rfl, rfl, a1, a2⟩
    obtain ⟨h, rfl⟩ := Int.eq_ofNat_of_zero_le a1
    refine tSeq_cut (fun σ' H' => ∃ (t : Int), σ' = [some (.ref a), some (.int h), some (.int t), none, none, none, none, none, none, none, none, none, none, none] ∧ H = H' ∧ 0 ≤ t ∧ t < 5) ?_ fun key => ?_
    rotate_left
    · exact ⟨_, rfl, a, ns, 1, rfl, hS, by decide, hl, _, _, rfl, rfl, p5, key _ _ ⟨_, rfl, rfl, Int.emod_nonneg _ (by decide), Int.emod_lt_of_pos _ (by decide)⟩⟩
    rintro _ _ ⟨t2, rfl, rfl, c1, c2⟩
    obtain ⟨w, rfl⟩ := Int.eq_ofNat_of_zero_le c1
    refine tSeq_cut (fun σ' H' => ∃ (A : Addr) (f : Nat → Nat → Int), σ' = [some (.ref a), some (.int h), some (.int w), some (.ref A), none, none, none, none, none, none, none, none, none, none] ∧ Same H H' ∧ Rep K H' (.ref A) (dT h w f) ∧ bT 200 f) ?_ fun key => ?_
    rotate_left
    · refine ⟨_, rfl, _, rfl, _, rfl, _, rfl, a, ns, 2, rfl, hS, by decide, hl, a, ns, 2, h, w, _, rfl, hS, hl, hbit, by decide, by omega, by omega, fun A as H3 hal R3 => ?_⟩
      exact key _ _ ⟨A, _, rfl, R3.same, R3.rep hal, fun i j => num_bd _ _⟩
    rintro _ H3 ⟨A, f, rfl, s03, rA, bf⟩
    refine tSeq_cut (fun σ' H' => ∃ (p L R dn : Addr) (Z : Addr → Prop), σ' = [some (.ref a), some (.int h), some (.int w), some (.ref A), some (.ref p), none, none, none, none, none, none, none, none, none] ∧ Same H3 H' ∧ TurnerW K C_Lines C_Turner H' Z p L R dn h w (Sta.first f) [] 200 ∧ (H3 p = none ∧ H3 L = none ∧ H3 R = none ∧ H3 dn = none) ∧ ∀ c, H3 c ≠ none → Z c) ?_ fun key => ?_
    rotate_left
    · refine ⟨_, rfl, .ref A, rowsOf h w f, rfl, (by rw [← dT_dR]; exact rA), (by rw [rowsOf_len]; omega), fun D as H4 s4 nD tD nw => ⟨_, rfl, ?_⟩⟩
      intro p dx np ndx nedx
      have sN : Same H4 (upd (upd H4 dx (.own p)) p (.ins C_Turner dx [])) := (Same.new ndx).turn np
      have ep : upd (upd H4 dx (.own p)) p (.ins C_Turner dx []) p = some (.ins C_Turner dx []) := upd_same
      generalize upd (upd H4 dx (.own p)) p (.ins C_Turner dx []) = H5 at sN ep
      refine ⟨p, dx, .ref D, h, w, 200, f, rfl, ep, (by rw [dT_dR]; exact (tD.same sN).rep), by omega, by omega, bf, by decide, fun L R dn H6 nL nR nd sx6 x6 => ⟨rfl, ?_⟩⟩
      have s35 := s4.trans sN
      have np3 : H3 p = none := s4.free np
      exact key _ _ ⟨p, L, R, dn, _, rfl, fun c o e => sx6 c o (ne_of_none e np3) (s35 _ _ e), x6, ⟨np3, s35.free nL, s35.free nR, s35.free nd⟩, fun c hc => .inl fun z => hc (s35.free z)⟩
    rintro _ H6 ⟨p, L, R, dn, Z, rfl, s36, x1, hn1, _⟩
    refine tSeq_cut (fun σ' H' => ∃ (p2 L2 R2 dn2 : Addr) (Z2 : Addr → Prop), σ' = [some (.ref a), some (.int h), some (.int w), some (.ref A), some (.ref p), some (.ref p2), none, none, none, none, none, none, none, none] ∧ Same H6 H' ∧ TurnerW K C_Lines C_Turner H' Z2 p2 L2 R2 dn2 h w (Sta.first f) [] 200 ∧ (H6 p2 = none ∧ H6 L2 = none ∧ H6 R2 = none ∧ H6 dn2 = none) ∧ ∀ c, H6 c ≠ none → Z2 c) ?_ fun key => ?_
    rotate_left
    · refine ⟨_, rfl, .ref A, rowsOf h w f, rfl, (by rw [← dT_dR]; exact Rep.same s36 rA), (by rw [rowsOf_len]; omega), fun D as H4 s4 nD tD nw => ⟨_, rfl, ?_⟩⟩
      intro p2 dx np ndx nedx
      have sN : Same H4 (upd (upd H4 dx (.own p2)) p2 (.ins C_Turner dx [])) := (Same.new ndx).turn np
      have ep : upd (upd H4 dx (.own p2)) p2 (.ins C_Turner dx []) p2 = some (.ins C_Turner dx []) := upd_same
      generalize upd (upd H4 dx (.own p2)) p2 (.ins C_Turner dx []) = H5 at sN ep
      refine ⟨p2, dx, .ref D, h, w, 200, f, rfl, ep, (by rw [dT_dR]; exact (tD.same sN).rep), by omega, by omega, bf, by decide, fun L2 R2 dn2 H7 nL nR nd sx7 x7 => ⟨rfl, ?_⟩⟩
      have s35 := s4.trans sN
      have np3 : H6 p2 = none := s4.free np
      exact key _ _ ⟨p2, L2, R2, dn2, _, rfl, fun c o e => sx7 c o (ne_of_none e np3) (s35 _ _ e), x7, ⟨np3, s35.free nL, s35.free nR, s35.free nd⟩, fun c hc => .inl fun z => hc (s35.free z)⟩
    rintro _ H7 ⟨p2, L2, R2, dn2, Z2, rfl, s67, x2, hn2, hz2⟩
    have x1b := x1.same s67
    refine tSeq_cut (fun σ' H' => ∃ st, σ' = [some (.ref a), some (.int h), some (.int w), some (.ref A), some (.ref p), some (.ref p2), some (.ref st), none, none, none, none, none, none, none] ∧ Same H7 H' ∧ H7 st = none ∧ H' st = some (.lst [.ref A])) ?_ fun key => ?_
    rotate_left
    · exact ⟨_, rfl, smallE (by simp), fun st hst => key _ _ ⟨st, rfl, Same.new hst, hst, upd_same⟩⟩
    rintro _ H8 ⟨st, rfl, s78, hst7, hst8⟩
    refine tSeq_cut (fun σ' H' => ∃ (hd : Addr) (Z1 Z3 : Addr → Prop), σ' = [some (.ref a), some (.int h), some (.int w), some (.ref A), some (.ref p), some (.ref p2), some (.ref st), some (.ref hd), none, none, none, none, none, none] ∧ Same H8 H' ∧ Live K C_Lines C_Turner H' p L R dn st hd Z1 h w f 0 0 ∧ (∀ (C : Addr) (cs : List Int), H' C = none → Stat K C_Lines C_Turner (upd H' C (.lst (cs.map V.int))) p L R dn p2 L2 R2 dn2 hd a C A Z1 Z3 ns cs h w f)) ?_ fun key => ?_
    rotate_left
    · refine ⟨smallE (by simp), fun hd hhd => ?_⟩
      have s89 : Same H8 (upd H8 hd (.lst [])) := Same.new hhd
      have y1 := (x1b.same s78).grow (o := .lst []) hhd
      have y2 := (x2.same s78).grow (o := .lst []) hhd
      have ehd : upd H8 hd (.lst []) hd = some (.lst []) := upd_same
      generalize upd H8 hd (.lst []) = H9 at s89 y1 y2 ehd
      obtain ⟨i1, i2, i3, i4⟩ := hn1
      obtain ⟨j1, j2, j3, j4⟩ := hn2
      obtain ⟨e1, e2, e3, e4⟩ := x1.here
      have s68 := s67.trans s78
      have k8 : ∀ c, H6 c ≠ none → H8 c ≠ none := Kp.of s68
      have k9 : ∀ c, H6 c ≠ none → H9 c ≠ none := Kp.of (s68.trans s89)
      have nh : ∀ c, H8 c ≠ none → c ≠ hd := fun c hc z => hc (z ▸ hhd)
      have sW : Same H3 (hide H9 (W5 p L R dn hd)) := fun c o e => by
        have e8 : H8 c = some o := (s36.trans s68) _ _ e
        rw [hide_no ?_]
        · exact s89 _ _ e8
        rintro (z | z | z | z | z)
        · rw [z, i1] at e; cases e
        · rw [z, i2] at e; cases e
        · rw [z, i3] at e; cases e
        · rw [z, i4] at e; cases e
        · exact nh c (by rw [e8]; intro q; cases q) z
      have hW9 : ∀ c, W5 p L R dn hd c → H9 c ≠ none := by
        rintro c (rfl | rfl | rfl | rfl | rfl)
        · exact k9 _ e1
        · exact k9 _ e2
        · exact k9 _ e3
        · exact k9 _ e4
        · rw [ehd]; intro q; cases q
      have n67 : ∀ c d, H6 c ≠ none → H6 d = none → c ≠ d := fun c d h1 h2 z => h1 (z ▸ h2)
      have n78 : ∀ c, H6 c ≠ none → c ≠ st := fun c h1 z => (Kp.of s67 c h1) (z ▸ hst7)
      have x2h := (x2.same s78).here
      refine key _ _ ⟨hd, fun c => Z c ∨ c = hd, fun c => Z2 c ∨ c = hd, rfl, s89, ⟨Sta.first f, [], 200, [], f, [.ref A], [], [], y1, rfl, by omega, by omega, .nil, fun _ _ _ _ => rfl, fun fn hfn => ?_, .of ?_, ⟨_, _, rfl, Rep.same sW rA, rfl⟩, ehd, rfl, by simp, by simp⟩, fun C cs hC => ?_⟩
      · have : fn = f := by simpa using hfn
        rw [this]; exact bf
      · rw [hide_no ?_]
        · exact s89 _ _ hst8
        rintro (z | z | z | z | z)
        · exact n78 p e1 z.symm
        · exact n78 L e2 z.symm
        · exact n78 R e3 z.symm
        · exact n78 dn e4 z.symm
        · exact nh st (by rw [hst8]; intro q; cases q) z
      · have s2 : Same H9 (upd H9 C (.lst (cs.map V.int))) := Same.new hC
        have sW2 := sW.trans (same_hid (Z := W5 p L R dn hd) s2)
        refine ⟨y2.same s2, sW2.seq (s03.seq hS), .of ?_, Rep.same sW2 rA, .inr rfl, ⟨.inl (hz2 _ e1), .inl (hz2 _ e2), .inl (hz2 _ e3), .inl (hz2 _ e4), .inr rfl⟩, ⟨(nh p (k8 _ e1)).symm, (nh L (k8 _ e2)).symm, (nh R (k8 _ e3)).symm, (nh dn (k8 _ e4)).symm⟩, ?_⟩
        · rw [hide_no fun z => hW9 C z hC]
          exact upd_same
        · rintro c (rfl | rfl | rfl | rfl | rfl)
          · exact ⟨n67 _ _ e1 j1, n67 _ _ e1 j2, n67 _ _ e1 j3, n67 _ _ e1 j4⟩
          · exact ⟨n67 _ _ e2 j1, n67 _ _ e2 j2, n67 _ _ e2 j3, n67 _ _ e2 j4⟩
          · exact ⟨n67 _ _ e3 j1, n67 _ _ e3 j2, n67 _ _ e3 j3, n67 _ _ e3 j4⟩
          · exact ⟨n67 _ _ e4 j1, n67 _ _ e4 j2, n67 _ _ e4 j3, n67 _ _ e4 j4⟩
          · exact ⟨(nh _ x2h.1).symm, (nh _ x2h.2.1).symm, (nh _ x2h.2.2.1).symm, (nh _ x2h.2.2.2).symm⟩
    rintro _ H9 ⟨hd, Z1, Z3, rfl, s89, lv, stt⟩
    clear x1 x1b x2 hn1 hn2 hz2
    refine tSeq_cut (t := tFor _ _ _) (fun σ' G => ∃ (st C : Addr) (cs : List Int) (o8 o9 o10 o11 : Option V), σ' = [some (.ref a), some (.int h), some (.int w), some (.ref A), some (.ref p), some (.ref p2), some (.ref st), some (.ref hd), o8, o9, o10, o11, none, none] ∧ Stat K C_Lines C_Turner G p L R dn p2 L2 R2 dn2 hd a C A Z1 Z3 ns cs h w f ∧ Live K C_Lines C_Turner G p L R dn st hd Z1 h w f 63 315) ?_ fun key => ?_
    rotate_left
    · refine ⟨_, rfl, _, rfl, _, rfl, a, _, rfl, (s03.trans (s36.trans (s67.trans (s78.trans s89)))).seq hS, fun C hC => ?_⟩
      rw [cutV_map]
      have S0 := stt C (cutI ns (some 3) (some 63)) hC
      have L0 := lv.same (Same.new (o := .lst ((cutI ns (some 3) (some 63)).map V.int)) hC)
      have hcl := cutI_len ns (some 3) (some 63)
      have hcm : ∀ x ∈ cutI ns (some 3) (some 63), x.natAbs < 2 ^ cellBits := fun x hx => hbit x (cutI_mem hx)
      generalize cutI ns (some 3) (some 63) = cs at S0 L0 hcl hcm
      generalize upd H9 C (.lst (cs.map V.int)) = G0 at S0 L0
      refine ⟨C, rfl, ⟨_, hide_same.seq S0.cc⟩, for_list (K := K) (a := C) (xs := cs.map V.int) (fun i σ G => ∃ (st : Addr) (o8 o9 o10 o11 : Option V), σ = [some (.ref a), some (.int h), some (.int w), some (.ref A), some (.ref p), some (.ref p2), some (.ref st), some (.ref hd), o8, o9, o10, o11, none, none] ∧ Stat K C_Lines C_Turner G p L R dn p2 L2 R2 dn2 hd a C A Z1 Z3 ns cs h w f ∧ Live K C_Lines C_Turner G p L R dn st hd Z1 h w f i (5 * i))
        ⟨st, none, none, none, none, rfl, S0, L0⟩ (fun i σ G _ ⟨_, _, _, _, _, _, S1, _⟩ => hide_same.seq S1.cc) ?_ ?_⟩
      · rintro i v σ G hv ⟨st, o8, o9, o10, o11, rfl, S1, L1⟩
        have hi : i < cs.length := by have := (List.getElem?_eq_some_iff.mp hv).1; simpa using this
        rw [List.getElem?_map, List.getElem?_eq_getElem hi] at hv
        cases hv
        have hcb := hcm _ (List.getElem_mem hi)
        generalize cs[i] = c at hcb
        have W9 : ∀ q, W5 p L R dn hd q → G q ≠ none := by
          obtain ⟨S, ds, B, fs, g, us, ps, hs, x1, _, _, _, _, _, _, _, _, ehd, _⟩ := L1.ex
          obtain ⟨q1, q2, q3, q4⟩ := x1.here
          rintro q (rfl | rfl | rfl | rfl | rfl)
          · exact q1
          · exact q2
          · exact q3
          · exact q4
          · rw [ehd]; intro z; cases z
        dsimp only [gName]
        refine tSeq_cut (fun σ' G' => ∃ b : Bool, σ' = [some (.ref a), some (.int h), some (.int w), some (.ref A), some (.ref p), some (.ref p2), some (.ref st), some (.ref hd), some (.int c), some (.bl b), o10, o11, none, none] ∧ G = G') ?_ fun key => ?_
        rotate_left
        · exact ⟨_, rfl, _, _, rfl, rfl, ⟨by decide, by decide⟩, _, _, rfl, rfl, (by show (0 : Int) < 2; decide), rfl, key _ _ ⟨_, rfl, rfl⟩⟩
        rintro _ _ ⟨b, rfl, rfl⟩
        refine tSeq_cut (fun σ' G' => σ' = [some (.ref a), some (.int h), some (.int w), some (.ref A), some (.ref p), some (.ref p2), some (.ref st), some (.ref hd), some (.int c), some (.bl b), some (.int w), o11, none, none] ∧ G = G') ?_ fun key => ?_
        rotate_left
        · exact ⟨_, rfl, key _ _ ⟨rfl, rfl⟩⟩
        rintro _ _ ⟨rfl, rfl⟩
        refine tSeq_cut (fun σ' G' => σ' = [some (.ref a), some (.int h), some (.int w), some (.ref A), some (.ref p), some (.ref p2), some (.ref st), some (.ref hd), some (.int c), some (.bl b), some (.int ((if b then h else w : Nat) : Int)), o11, none, none] ∧ G = G') ?_ fun key => ?_
        rotate_left
        · refine ⟨_, rfl, _, rfl, ?_⟩
          cases b with
          | true => refine ifP rfl ?_; exact ⟨_, rfl, key _ _ ⟨rfl, rfl⟩⟩
          | false => refine ifN (by decide) ?_; exact key _ _ ⟨rfl, rfl⟩
        rintro _ _ ⟨rfl, rfl⟩
        have hm60 : (if b then h else w : Nat) ≤ 60 := by cases b <;> simp <;> omega
        refine tSeq_cut (fun σ' G' => ∃ v, σ' = [some (.ref a), some (.int h), some (.int w), some (.ref A), some (.ref p), some (.ref p2), some (.ref st), some (.ref hd), some (.int c), some (.bl b), some (.int ((if b then h else w : Nat) : Int)), some v, none, none] ∧ Same G G' ∧ (v = .non ∨ ∃ t, okTn (if b then h else w) t ∧ tB 3 t ∧ Rep K G' v (dTn t))) ?_ fun key => ?_
        rotate_left
        · have hn1 : 0 ≤ c * 48271 % 1009 % 9 := Int.emod_nonneg _ (by decide)
          have hn2 : c * 48271 % 1009 % 9 < 9 := Int.emod_lt_of_pos _ (by decide)
          refine ⟨_, rfl, _, _, rfl, rfl, ⟨by decide, by decide⟩, _, rfl, _, rfl, _, _, rfl, rfl, mulok (m := cellBits) (n := 16) hcb (by decide) (by decide), _, _, rfl, rfl, (by show (0 : Int) < 1009; decide), _, _, rfl, rfl, (by show (0 : Int) < 9; decide), _, _, rfl, rfl, ?_⟩
          refine ⟨_, _, (if b then h else w), rfl, hm60, fun _ => key _ _ ⟨.non, rfl, Same.refl G, .inl rfl⟩, fun _ t v G' ht htb s rt => key _ _ ⟨v, rfl, s, .inr ⟨t, ht, htb 3 (by show _ < 8; omega), rt⟩⟩⟩
        rintro _ G1 ⟨v, rfl, sv, hv⟩
        have S2 := S1.same sv
        have L2' := L1.same sv
        have W1 : ∀ q, W5 p L R dn hd q → G1 q ≠ none := fun q hq => Kp.of sv q (W9 q hq)
        clear S1 L1 W9
        refine tSeq_cut (t := tIfS _ _ _) (fun σ' G' => ∃ st2 : Addr, σ' = [some (.ref a), some (.int h), some (.int w), some (.ref A), some (.ref p), some (.ref p2), some (.ref st2), some (.ref hd), some (.int c), some (.bl b), some (.int ((if b then h else w : Nat) : Int)), some v, none, none] ∧ Stat K C_Lines C_Turner G' p L R dn p2 L2 R2 dn2 hd a C A Z1 Z3 ns cs h w f ∧ Live K C_Lines C_Turner G' p L R dn st2 hd Z1 h w f (i + 1) (5 * i)) ?_ fun key => ?_
        rotate_left
        · obtain ⟨S, ds, B, fs, g, us, ps, hs, x1, hT, hB1, hB2, ch, hfg, hbf, hst, rst, ehd, rps, hhs, hdl⟩ := L2'.ex
          have hul : us.length = fs.length + 1 := by have := rst.length; simpa using this
          have hdf := ch.len
          have hst' : SqL K G1 st us := hide_same.seq hst
          refine ⟨_, rfl, _, _, rfl, rfl, (by show (0 : Int) < 4; decide), rfl, _, rfl, ?_⟩
          refine ite2 (fun h1 => ?_) (fun h1 => ?_)
          · -- one is taken back
            refine ⟨_, rfl, p, L, R, dn, Z1, h, w, B, S, ds, rfl, x1, by omega, fun hd0 G2 s2 => ?_, fun ds0 q e0 G2 fr x2 => ?_⟩
            · have hfs : fs = [] := List.length_eq_zero_iff.mp (by rw [← hdf, hd0]; rfl)
              subst hfs
              refine ⟨_, rfl, st, us, rfl, .inl (s2.seq hst'), rfl, .inr ⟨_, rfl, rfl, _, rfl, ?_⟩⟩
              have h1l : us.length = 1 := hul
              refine ifN (by rw [h1l]; decide) ?_
              refine ⟨_, rfl, _, rfl, st, us, rfl, .inl (s2.seq hst'), _, _, rfl, rfl, _, _, rfl, _, rfl, st, us, rfl, s2.seq hst', fun q hq => ?_⟩
              have hcut : cutV us none (some (if (us.length : Int) - 1 > 1 then (us.length : Int) - 1 else 1)) = us := by
                rw [h1l]
                exact (cut_take us 1).trans (List.take_of_length_le (by omega))
              rw [hcut]
              have s12 := s2.trans (Same.new (o := .lst us) hq)
              exact key _ _ ⟨q, rfl, S2.same s12, ⟨S, ds, B, [], g, us, ps, hs, x1.same s12, hT, hB1, by omega, ch, hfg, hbf, states_new (fun c hc => Kp.of s2 c (W1 c hc)) hq, Reps.same (same_hid s12) rst, s12 _ _ ehd, Reps.same (same_hid s12) rps, hhs, by omega⟩⟩
            · subst e0
              obtain ⟨fs0, g0, rfl, rfl, ch0⟩ := ch.back
              have sh := fr.hidW (hd := hd)
              have hst2 : SqL K G2 st us := hide_same.seq (sh.seq hst)
              have hul2 : us.length = fs0.length + 2 := by rw [hul]; simp
              have h3 : okTn (if q.1 then h else w) q.2 := (x1.bd q (by simp)).2
              refine ⟨_, rfl, st, us, rfl, .inl hst2, rfl, .inr ⟨_, rfl, rfl, _, rfl, ?_⟩⟩
              refine ifN (by rw [hul2]; simp; omega) ?_
              refine ⟨_, rfl, _, rfl, st, us, rfl, .inl hst2, _, _, rfl, rfl, _, _, rfl, _, rfl, st, us, rfl, hst2, fun r hr2 => ?_⟩
              have hcut : cutV us none (some (if (us.length : Int) - 1 > 1 then (us.length : Int) - 1 else 1)) = us.take (fs0.length + 1) := by
                have e : (if (us.length : Int) - 1 > 1 then (us.length : Int) - 1 else 1) = ((fs0.length + 1 : Nat) : Int) := by split <;> omega
                rw [e]
                exact cut_take us _
              rw [hcut]
              have s12 : Same G2 (upd G2 r (.lst (us.take (fs0.length + 1)))) := Same.new hr2
              have hW2 : ∀ c, W5 p L R dn hd c → G2 c ≠ none := fun c hc => fr.kp x2 c (W1 c hc)
              have rr : Reps K (hide (upd G2 r (.lst (us.take (fs0.length + 1)))) (W5 p L R dn hd)) (us.take (fs0.length + 1)) ((fs0 ++ [g0]).map (dT h w)) := by
                have := (Reps.same (sh.trans (same_hid s12)) rst).take (fs0.length + 1)
                have e2 : ((fs0 ++ [g0]) ++ [apT q g0]).take (fs0.length + 1) = fs0 ++ [g0] := by
                  rw [List.take_append_of_le_length (by simp)]
                  exact List.take_of_length_le (by simp)
                rw [← List.map_take, e2] at this
                exact this
              have hfg' : ∀ i j, i < h → j < w → (S.tk q).f i j = g0 i j := fun i j hi hj => by
                rw [(tk_f S q).1]
                exact back_as h3 hfg i j hi hj
              have hbf' : ∀ fn ∈ fs0 ++ [g0], bT (B + 4) fn := fun fn hfn => (hbf fn (List.mem_append_left _ hfn)).mono (by omega)
              simp at hdl
              exact key _ _ ⟨r, rfl, (S2.act x1 fr x2).same s12, ⟨S.tk q, ds0, B + 4, fs0, g0, _, ps, hs, x2.same s12, (tk_f S q).2.trans hT, by omega, by omega, ch0, hfg', hbf', states_new hW2 hr2, rr, s12 _ _ (fr.hd5 S2.n1 ehd), Reps.same (sh.trans (same_hid s12)) rps, hhs, by omega⟩⟩
          · refine ⟨_, rfl, rfl, _, rfl, ?_⟩
            rcases hv with rfl | ⟨t, ht, htb, rt⟩
            · refine ifN (by decide) ?_
              exact key _ _ ⟨st, rfl, S2, ⟨S, ds, B, fs, g, us, ps, hs, x1, hT, hB1, by omega, ch, hfg, hbf, hst, rst, ehd, rps, hhs, by omega⟩⟩
            obtain ⟨va, rfl⟩ := dTn_ref rt
            refine ifP (by simp) ?_
            refine ⟨_, rfl, _, rfl, _, rfl, p, L, R, dn, .ref va, Z1, h, w, B, S, ds, b, t, rfl, x1, rt, ht, htb, by omega, by omega, fun G2 fr x2 => ⟨rfl, _, rfl, ?_⟩⟩
            refine ifN (by decide) ?_
            have sh := fr.hidW (hd := hd)
            have hst2 : SqL K G2 st us := hide_same.seq (sh.seq hst)
            have hW2 : ∀ c, W5 p L R dn hd c → G2 c ≠ none := fun c hc => fr.kp x2 c (W1 c hc)
            have rst2 := Reps.same sh rst
            obtain ⟨us0, y, rfl, rs0, ry⟩ := reps_snoc (by rw [List.map_append] at rst2; exact rst2)
            refine ⟨_, rfl, _, rfl, _, rfl, st, _, _, _, rfl, rfl, hst2, at_last us0 y, _, rfl, _, rfl, _, rfl, y, .ref va, h, w, B, g, b, t, rfl, Rep.same hide_same ry, Rep.t (x1.t fr) (imm_dTn t) rt, ht, hbf g (by simp), htb.mono (by omega), by omega, by omega, by omega, fun D G3 nD s3 rD => ⟨smallE (by simp), fun l1 hl1 => ?_⟩⟩
            have s34 : Same G3 (upd G3 l1 (.lst [.ref D])) := Same.new hl1
            have e4 : upd G3 l1 (.lst [.ref D]) l1 = some (.lst [.ref D]) := upd_same
            generalize upd G3 l1 (.lst [.ref D]) = G4 at s34 e4
            have s24 := s3.trans s34
            refine ⟨st, l1, _, _, rfl, rfl, s24.seq hst2, .of e4, smallE (by rw [hul]; simp; omega), fun st2 hn2 => ?_⟩
            have s45 : Same G4 (upd G4 st2 (.lst (us0 ++ [y] ++ [.ref D]))) := Same.new hn2
            have s25 := s24.trans s45
            have rr : Reps K (hide (upd G4 st2 (.lst (us0 ++ [y] ++ [.ref D]))) (W5 p L R dn hd)) (us0 ++ [y] ++ [.ref D]) (((fs ++ [g]) ++ [apT (b, t) g]).map (dT h w)) := by
              rw [List.map_append]
              refine (Reps.same (same_hid s25) rst2).snoc ?_
              exact Rep.same ((hide_sub hW2).trans (same_hid (s34.trans s45))) rD
            have hfg' : ∀ i j, i < h → j < w → (if b then S.row t else S.col t).f i j = apT (b, t) g i j := fun i j hi hj => by
              rw [(ap_f S b t).1]
              exact apT_congr ht hfg i j hi hj
            have hbf' : ∀ fn ∈ (fs ++ [g]) ++ [apT (b, t) g], bT (B + 4) fn := fun fn hfn => by
              rcases List.mem_append.mp hfn with hfn | hfn
              · exact (hbf fn hfn).mono (by omega)
              · have : fn = apT (b, t) g := by simpa using hfn
                rw [this]
                exact (hbf g (by simp)).ap htb
            exact key _ _ ⟨st2, rfl, (S2.act x1 fr x2).same s25, ⟨_, ds ++ [(b, t)], B + 4, fs ++ [g], _, _, ps, hs, x2.same s25, (ap_f S b t).2.trans hT, by omega, by omega, ch.snoc (b, t), hfg', hbf', states_new (fun c hc => Kp.of s24 c (hW2 c hc)) hn2, rr, s25 _ _ (fr.hd5 S2.n1 ehd), Reps.same (sh.trans (same_hid s25)) rps, hhs, by simp; omega⟩⟩
        rintro _ G2 ⟨st2, rfl, S3, L3⟩
        refine tSeq_cut (t := tIfS _ _ _) (fun σ' G' => σ' = [some (.ref a), some (.int h), some (.int w), some (.ref A), some (.ref p), some (.ref p2), some (.ref st2), some (.ref hd), some (.int c), some (.bl b), some (.int ((if b then h else w : Nat) : Int)), some v, none, none] ∧ Stat K C_Lines C_Turner G' p L R dn p2 L2 R2 dn2 hd a C A Z1 Z3 ns cs h w f ∧ Live K C_Lines C_Turner G' p L R dn st2 hd Z1 h w f (i + 1) (5 * i + 1)) ?_ fun key => ?_
        rotate_left
        · obtain ⟨S, ds, B, fs, g, us, ps, hs, x1, hT, hB1, hB2, ch, hfg, hbf, hst, rst, ehd, rps, hhs, hdl⟩ := L3.ex
          have hW2 : ∀ q, W5 p L R dn hd q → G2 q ≠ none := live_W L3
          refine ⟨_, rfl, _, rfl, _, rfl, _, rfl, p, L, R, dn, st2, hd, Z1, W5 p L R dn hd, h, w, B, S, ds, us, ps, fs, g, hs, rfl, x1, hide_same.seq hst, Reps.same hide_same rst, ch.len, hfg, ehd, hW2, .inr (.inr (.inr (.inr rfl))), rps, by omega, fun ps' hs' G3 sx e3 r3 hl3 => ⟨_, rfl, ?_⟩⟩
          refine ifN (by decide) ?_
          have sh := sx.hid (W := W5 p L R dn hd) (.inr (.inr (.inr (.inr rfl))))
          exact key _ _ ⟨rfl, S3.held ehd sx e3, ⟨S, ds, B, fs, g, us, ps', hs', x1.held S3 ehd sx e3, hT, hB1, hB2, ch, hfg, hbf, sh.seq hst, Reps.same sh rst, e3, r3, by omega, hdl⟩⟩
        rintro _ G3 ⟨rfl, S4, L4⟩
        refine ⟨_, rfl, _, _, rfl, rfl, ⟨by decide, by decide⟩, _, _, rfl, rfl, (by show (0 : Int) < 12; decide), rfl, _, rfl, ?_⟩
        obtain ⟨S, ds, B, fs, g, us, ps, hs, x1, hT, hB1, hB2, ch, hfg, hbf, hst, rst, ehd, rps, hhs, hdl⟩ := L4.ex
        refine ite2 (fun h1 => ?_) (fun h1 => ?_)
        rotate_left
        · refine ifN (by decide) ?_
          exact ⟨st2, _, _, _, _, rfl, S4, ⟨S, ds, B, fs, g, us, ps, hs, x1, hT, hB1, by omega, ch, hfg, hbf, hst, rst, ehd, rps, by omega, by omega⟩⟩
        have hW3 : ∀ q, W5 p L R dn hd q → G3 q ≠ none := live_W L4
        obtain ⟨us0, y, rfl, rs0, ry⟩ := reps_snoc (by rw [List.map_append] at rst; exact rst)
        refine ⟨_, rfl, _, rfl, _, rfl, _, rfl, st2, _, _, _, rfl, rfl, hide_same.seq hst, at_last us0 y, _, rfl, _, rfl, p, L, R, dn, hd, .ref A, y, Z1, W5 p L R dn hd, h, w, B, S, ds, ps, g, hs, rfl, x1, by omega, (by rw [hT]; exact bf.mono hB1), (by rw [hT]; exact S4.tb), ry, hfg, ehd, hW3, .inr (.inr (.inr (.inr rfl))), rps, by omega, fun ps' hs' G4 sx e4 r4 hl4 => ⟨_, rfl, ?_⟩⟩
        refine ifN (by decide) ?_
        have sh := sx.hid (W := W5 p L R dn hd) (.inr (.inr (.inr (.inr rfl))))
        exact ⟨st2, _, _, _, _, rfl, S4.held ehd sx e4, ⟨S, ds, B, fs, g, _, ps', hs', x1.held S4 ehd sx e4, hT, hB1, by omega, ch, hfg, hbf, sh.seq hst, Reps.same sh rst, e4, r4, by omega, by omega⟩⟩
      · rintro σ G ⟨st, o8, o9, o10, o11, rfl, S1, L1⟩
        rw [List.length_map] at L1
        obtain ⟨S, ds, B, fs, g, us, ps, hs, h1, h2, h3, h4, h5, h6, h7, h8, h9, h10, h11, h12, h13⟩ := L1.ex
        exact key _ _ ⟨st, C, cs, o8, o9, o10, o11, rfl, S1, ⟨S, ds, B, fs, g, us, ps, hs, h1, h2, h3, by omega, h5, h6, h7, h8, h9, h10, h11, by omega, by omega⟩⟩
    rintro _ G ⟨st, C, cs, o8, o9, o10, o11, rfl, S1, L1⟩
    obtain ⟨S, ds, B, fs, g, us, ps, hs, x1, hT, hB1, hB2, ch, hfg, hbf, hst, rst, ehd, rps, hhs, hdl⟩ := L1.ex
    have hW3 : ∀ q, W5 p L R dn hd q → G q ≠ none := live_W L1
    obtain ⟨us0, y, rfl, rs0, ry⟩ := reps_snoc (by rw [List.map_append] at rst; exact rst)
    refine tSeq_cut (t := tIfS _ _ _) (fun σ' G' => ∃ (ps' : List V) (hs' : List (List (List Int))), σ' = [some (.ref a), some (.int h), some (.int w), some (.ref A), some (.ref p), some (.ref p2), some (.ref st), some (.ref hd), o8, o9, o10, o11, none, none] ∧ Stat K C_Lines C_Turner G' p L R dn p2 L2 R2 dn2 hd a C A Z1 Z3 ns cs h w f ∧ G' hd = some (.lst ps') ∧ Reps K (hide G' (W5 p L R dn hd)) ps' (hs'.map dH)) ?_ fun key => ?_
    rotate_left
    · refine ⟨_, rfl, _, rfl, _, rfl, _, rfl, st, _, _, _, rfl, rfl, hide_same.seq hst, at_last us0 y, _, rfl, _, rfl, p, L, R, dn, hd, .ref A, y, Z1, W5 p L R dn hd, h, w, B, S, ds, ps, g, hs, rfl, x1, by omega, (by rw [hT]; exact bf.mono hB1), (by rw [hT]; exact S1.tb), ry, hfg, ehd, hW3, .inr (.inr (.inr (.inr rfl))), rps, by omega, fun ps' hs' G4 sx e4 r4 hl4 => ⟨_, rfl, ?_⟩⟩
      refine ifN (by decide) ?_
      exact key _ _ ⟨ps', hs', rfl, S1.held ehd sx e4, e4, r4⟩
    rintro _ G4 ⟨ps1, hs1, rfl, S4, e4, r4⟩
    have x2 := S4.x2
    obtain ⟨tb2, ⟨dx2, fl2, hp2, _, _, _, _, _, ⟨m1, m2, m3, m4, m5, m6, m7, m8⟩, _⟩, _⟩ := x2.ob
    refine tSeq_cut (t := tIfS _ _ _) (fun σ' G' => σ' = [some (.ref a), some (.int h), some (.int w), some (.ref A), some (.ref p), some (.ref p2), some (.ref st), some (.ref hd), o8, o9, o10, o11, none, none] ∧ Same G4 G') ?_ fun key => ?_
    rotate_left
    · refine ⟨_, rfl, p2, dx2, fl2, rfl, hp2, m7, p2, L2, R2, dn2, Z3, h, w, 200, Sta.first f, [], rfl, x2, fun D as G5 hl5 R5 => ?_⟩
      refine ⟨_, rfl, dT h w f, dT h w f, R5.rep hl5, Rep.same R5.same (Rep.same hide_same S4.tb), dep_dT _ _ _, _, rfl, ?_⟩
      rw [eqD_refl]
      refine ifN (by simp) ?_
      refine ⟨_, rfl, p2, dx2, fl2, rfl, R5.same _ _ hp2, m6, p2, L2, R2, dn2, Z3, h, w, 200, Sta.first f, [], rfl, x2.same R5.same, rfl, _, rfl, ?_⟩
      refine ifN (by decide) ?_
      exact key _ _ ⟨rfl, R5.same⟩
    rintro _ G5 ⟨rfl, s45⟩
    have e5 := s45 _ _ e4
    have r5 : Reps K G5 ps1 (hs1.map dH) := Reps.same (hide_same.trans s45) r4
    refine tSeq_cut (t := tFor _ _ _) (fun σ' G' => True) ?_ fun key => ?_
    rotate_left
    · refine ⟨_, rfl, hd, rfl, ⟨_, .of e5⟩, for_list (K := K) (a := hd) (xs := ps1) (fun i σ G' => ∃ o12 o13, σ = [some (.ref a), some (.int h), some (.int w), some (.ref A), some (.ref p), some (.ref p2), some (.ref st), some (.ref hd), o8, o9, o10, o11, o12, o13] ∧ G' = G5) ⟨none, none, rfl, rfl⟩ (fun i σ G' _ ⟨_, _, _, e⟩ => by rw [e]; exact .of e5) ?_ ?_⟩
      · rintro i v σ _ hv ⟨o12, o13, rfl, rfl⟩
        obtain ⟨d, hd', rv⟩ := r5.getV hv
        rw [List.getElem?_map] at hd'
        cases hq : hs1[i]? with
        | none => rw [hq] at hd'; cases hd'
        | some rows =>
          rw [hq] at hd'
          cases hd'
          obtain ⟨q, _, rfl, hqt, _, _, rfl, r1, _, _, rfl, r2, rfl⟩ := rv
          refine ⟨q, _, rfl, hqt, rfl, _, _, rfl, _, _, rfl, rfl, ?_⟩
          refine ⟨_, rfl, _, rfl, dR rows, dR rows, r1, r2, (by have := dep_dR rows; omega), _, rfl, ?_⟩
          rw [eqD_refl]
          refine ifN (by simp) ?_
          exact ⟨_, _, rfl, rfl⟩
      · rintro σ G' _
        exact key σ G' trivial
    intro σ' G' _
    exact k G'
end
end Hb
namespace Hb
open PySem L2
theorem elim1 {α : Type} {P : List α → Prop} (h : ∀ a0, P [a0]) (us : List α) (hl : us.length = 1) : P us := by
  cases us with
  | nil => exact nomatch hl
  | cons a0 u0 =>
    cases u0 with
    | nil => exact h a0
    | cons _ _ => simp at hl
theorem elim2 {α : Type} {P : List α → Prop} (h : ∀ a0 a1, P [a0, a1]) (us : List α) (hl : us.length = 2) : P us := by
  cases us with
  | nil => exact nomatch hl
  | cons a0 u0 =>
    cases u0 with
    | nil => exact nomatch hl
    | cons a1 u1 =>
      cases u1 with
      | nil => exact h a0 a1
      | cons _ _ => simp at hl
theorem elim3 {α : Type} {P : List α → Prop} (h : ∀ a0 a1 a2, P [a0, a1, a2]) (us : List α) (hl : us.length = 3) : P us := by
  cases us with
  | nil => exact nomatch hl
  | cons a0 u0 =>
    cases u0 with
    | nil => exact nomatch hl
    | cons a1 u1 =>
      cases u1 with
      | nil => exact nomatch hl
      | cons a2 u2 =>
        cases u2 with
        | nil => exact h a0 a1 a2
        | cons _ _ => simp at hl
theorem elim4 {α : Type} {P : List α → Prop} (h : ∀ a0 a1 a2 a3, P [a0, a1, a2, a3]) (us : List α) (hl : us.length = 4) : P us := by
  cases us with
  | nil => exact nomatch hl
  | cons a0 u0 =>
    cases u0 with
    | nil => exact nomatch hl
    | cons a1 u1 =>
      cases u1 with
      | nil => exact nomatch hl
      | cons a2 u2 =>
        cases u2 with
        | nil => exact nomatch hl
        | cons a3 u3 =>
          cases u3 with
          | nil => exact h a0 a1 a2 a3
          | cons _ _ => simp at hl
theorem elim5 {α : Type} {P : List α → Prop} (h : ∀ a0 a1 a2 a3 a4, P [a0, a1, a2, a3, a4]) (us : List α) (hl : us.length = 5) : P us := by
  cases us with
  | nil => exact nomatch hl
  | cons a0 u0 =>
    cases u0 with
    | nil => exact nomatch hl
    | cons a1 u1 =>
      cases u1 with
      | nil => exact nomatch hl
      | cons a2 u2 =>
        cases u2 with
        | nil => exact nomatch hl
        | cons a3 u3 =>
          cases u3 with
          | nil => exact nomatch hl
          | cons a4 u4 =>
            cases u4 with
            | nil => exact h a0 a1 a2 a3 a4
            | cons _ _ => simp at hl
set_option maxHeartbeats 4000000 in
theorem all_mk {l : PySem.W.OpenLaw} {w : World} {K : PySem.W.Frag} {h : Heap} {mg : Str → Option Value} {fa : Addr} {C_NoTurn : Addr}
    {C_Lines : Addr}
    {C_Turner : Addr}
    {f_is_whole : Addr} {od_is_whole an_is_whole : Option Addr} {sl_is_whole : Array (Option Value)} {oc_is_whole kV_is_whole dc_is_whole pm_is_whole cd_is_whole ct_is_whole : Value}
    {f_column : Addr} {od_column an_column : Option Addr} {sl_column : Array (Option Value)} {oc_column kV_column dc_column pm_column cd_column ct_column : Value}
    {f_one_row : Addr} {od_one_row an_one_row : Option Addr} {sl_one_row : Array (Option Value)} {oc_one_row kV_one_row dc_one_row pm_one_row cd_one_row ct_one_row : Value}
    {f_mixed : Addr} {od_mixed an_mixed : Option Addr} {sl_mixed : Array (Option Value)} {oc_mixed kV_mixed dc_mixed pm_mixed cd_mixed ct_mixed : Value}
    {f_copied : Addr} {od_copied an_copied : Option Addr} {sl_copied : Array (Option Value)} {oc_copied kV_copied dc_copied pm_copied cd_copied ct_copied : Value}
    {f_across : Addr} {od_across an_across : Option Addr} {sl_across : Array (Option Value)} {oc_across kV_across dc_across pm_across cd_across ct_across : Value}
    {f_Lines__init_ : Addr} {od_Lines__init_ an_Lines__init_ : Option Addr} {sl_Lines__init_ : Array (Option Value)} {oc_Lines__init_ kV_Lines__init_ dc_Lines__init_ pm_Lines__init_ cd_Lines__init_ ct_Lines__init_ : Value}
    {f_back_of : Addr} {od_back_of an_back_of : Option Addr} {sl_back_of : Array (Option Value)} {oc_back_of kV_back_of dc_back_of pm_back_of cd_back_of ct_back_of : Value}
    {f_Turner_many : Addr} {od_Turner_many an_Turner_many : Option Addr} {sl_Turner_many : Array (Option Value)} {oc_Turner_many kV_Turner_many dc_Turner_many pm_Turner_many cd_Turner_many ct_Turner_many : Value}
    {f_L_whole : Addr} {od_L_whole an_L_whole : Option Addr} {sl_L_whole : Array (Option Value)} {oc_L_whole kV_L_whole dc_L_whole pm_L_whole cd_L_whole ct_L_whole : Value}
    {f_L_cell_at : Addr} {od_L_cell_at an_L_cell_at : Option Addr} {sl_L_cell_at : Array (Option Value)} {oc_L_cell_at kV_L_cell_at dc_L_cell_at pm_L_cell_at cd_L_cell_at ct_L_cell_at : Value}
    {f_L_spread : Addr} {od_L_spread an_L_spread : Option Addr} {sl_L_spread : Array (Option Value)} {oc_L_spread kV_L_spread dc_L_spread pm_L_spread cd_L_spread ct_L_spread : Value}
    {f_L_number_by : Addr} {od_L_number_by an_L_number_by : Option Addr} {sl_L_number_by : Array (Option Value)} {oc_L_number_by kV_L_number_by dc_L_number_by pm_L_number_by cd_L_number_by ct_L_number_by : Value}
    {f_L_copy : Addr} {od_L_copy an_L_copy : Option Addr} {sl_L_copy : Array (Option Value)} {oc_L_copy kV_L_copy dc_L_copy pm_L_copy cd_L_copy ct_L_copy : Value}
    {f_L_product_by : Addr} {od_L_product_by an_L_product_by : Option Addr} {sl_L_product_by : Array (Option Value)} {oc_L_product_by kV_L_product_by dc_L_product_by pm_L_product_by cd_L_product_by ct_L_product_by : Value}
    {f_L_one_by : Addr} {od_L_one_by an_L_one_by : Option Addr} {sl_L_one_by : Array (Option Value)} {oc_L_one_by kV_L_one_by dc_L_one_by pm_L_one_by cd_L_one_by ct_L_one_by : Value}
    {f_L_turn_by : Addr} {od_L_turn_by an_L_turn_by : Option Addr} {sl_L_turn_by : Array (Option Value)} {oc_L_turn_by kV_L_turn_by dc_L_turn_by pm_L_turn_by cd_L_turn_by ct_L_turn_by : Value}
    {f_L_flip : Addr} {od_L_flip an_L_flip : Option Addr} {sl_L_flip : Array (Option Value)} {oc_L_flip kV_L_flip dc_L_flip pm_L_flip cd_L_flip ct_L_flip : Value}
    {f_is_whole_below : Addr} {od_is_whole_below an_is_whole_below : Option Addr} {sl_is_whole_below : Array (Option Value)} {oc_is_whole_below kV_is_whole_below dc_is_whole_below pm_is_whole_below cd_is_whole_below ct_is_whole_below : Value}
    {f_is_list_of_wholes : Addr} {od_is_list_of_wholes an_is_list_of_wholes : Option Addr} {sl_is_list_of_wholes : Array (Option Value)} {oc_is_list_of_wholes kV_is_list_of_wholes dc_is_list_of_wholes pm_is_list_of_wholes cd_is_list_of_wholes ct_is_list_of_wholes : Value}
    {f_flipped : Addr} {od_flipped an_flipped : Option Addr} {sl_flipped : Array (Option Value)} {oc_flipped kV_flipped dc_flipped pm_flipped cd_flipped ct_flipped : Value}
    {f_ones : Addr} {od_ones an_ones : Option Addr} {sl_ones : Array (Option Value)} {oc_ones kV_ones dc_ones pm_ones cd_ones ct_ones : Value}
    {f_turned : Addr} {od_turned an_turned : Option Addr} {sl_turned : Array (Option Value)} {oc_turned kV_turned dc_turned pm_turned cd_turned ct_turned : Value}
    {f_Turner_now : Addr} {od_Turner_now an_Turner_now : Option Addr} {sl_Turner_now : Array (Option Value)} {oc_Turner_now kV_Turner_now dc_Turner_now pm_Turner_now cd_Turner_now ct_Turner_now : Value}
    {f_L_table_by : Addr} {od_L_table_by an_L_table_by : Option Addr} {sl_L_table_by : Array (Option Value)} {oc_L_table_by kV_L_table_by dc_L_table_by pm_L_table_by cd_L_table_by ct_L_table_by : Value}
    {f_L_is_table : Addr} {od_L_is_table an_L_is_table : Option Addr} {sl_L_is_table : Array (Option Value)} {oc_L_is_table kV_L_is_table dc_L_is_table pm_L_is_table cd_L_is_table ct_L_is_table : Value}
    {f_L_rows_turned : Addr} {od_L_rows_turned an_L_rows_turned : Option Addr} {sl_L_rows_turned : Array (Option Value)} {oc_L_rows_turned kV_L_rows_turned dc_L_rows_turned pm_L_rows_turned cd_L_rows_turned ct_L_rows_turned : Value}
    {f_is_table : Addr} {od_is_table an_is_table : Option Addr} {sl_is_table : Array (Option Value)} {oc_is_table kV_is_table dc_is_table pm_is_table cd_is_table ct_is_table : Value}
    {f_Lines_turn : Addr} {od_Lines_turn an_Lines_turn : Option Addr} {sl_Lines_turn : Array (Option Value)} {oc_Lines_turn kV_Lines_turn dc_Lines_turn pm_Lines_turn cd_Lines_turn ct_Lines_turn : Value}
    {f_are_two_lines : Addr} {od_are_two_lines an_are_two_lines : Option Addr} {sl_are_two_lines : Array (Option Value)} {oc_are_two_lines kV_are_two_lines dc_are_two_lines pm_are_two_lines cd_are_two_lines ct_are_two_lines : Value}
    {f_Turner_papers : Addr} {od_Turner_papers an_Turner_papers : Option Addr} {sl_Turner_papers : Array (Option Value)} {oc_Turner_papers kV_Turner_papers dc_Turner_papers pm_Turner_papers cd_Turner_papers ct_Turner_papers : Value}
    {f_L_turned : Addr} {od_L_turned an_L_turned : Option Addr} {sl_L_turned : Array (Option Value)} {oc_L_turned kV_L_turned dc_L_turned pm_L_turned cd_L_turned ct_L_turned : Value}
    {f_L_now_is : Addr} {od_L_now_is an_L_now_is : Option Addr} {sl_L_now_is : Array (Option Value)} {oc_L_now_is kV_L_now_is dc_L_now_is pm_L_now_is cd_L_now_is ct_L_now_is : Value}
    {f_L_undo : Addr} {od_L_undo an_L_undo : Option Addr} {sl_L_undo : Array (Option Value)} {oc_L_undo kV_L_undo dc_L_undo pm_L_undo cd_L_undo ct_L_undo : Value}
    {f_is_turn : Addr} {od_is_turn an_is_turn : Option Addr} {sl_is_turn : Array (Option Value)} {oc_is_turn kV_is_turn dc_is_turn pm_is_turn cd_is_turn ct_is_turn : Value}
    {f_Turner__init_ : Addr} {od_Turner__init_ an_Turner__init_ : Option Addr} {sl_Turner__init_ : Array (Option Value)} {oc_Turner__init_ kV_Turner__init_ dc_Turner__init_ pm_Turner__init_ cd_Turner__init_ ct_Turner__init_ : Value}
    {f_Turner_do_rows : Addr} {od_Turner_do_rows an_Turner_do_rows : Option Addr} {sl_Turner_do_rows : Array (Option Value)} {oc_Turner_do_rows kV_Turner_do_rows dc_Turner_do_rows pm_Turner_do_rows cd_Turner_do_rows ct_Turner_do_rows : Value}
    {f_Turner_do_columns : Addr} {od_Turner_do_columns an_Turner_do_columns : Option Addr} {sl_Turner_do_columns : Array (Option Value)} {oc_Turner_do_columns kV_Turner_do_columns dc_Turner_do_columns pm_Turner_do_columns cd_Turner_do_columns ct_Turner_do_columns : Value}
    {f_L_papers_hold : Addr} {od_L_papers_hold an_L_papers_hold : Option Addr} {sl_L_papers_hold : Array (Option Value)} {oc_L_papers_hold kV_L_papers_hold dc_L_papers_hold pm_L_papers_hold cd_L_papers_hold ct_L_papers_hold : Value}
    {f_check_turn : Addr} {od_check_turn an_check_turn : Option Addr} {sl_check_turn : Array (Option Value)} {oc_check_turn kV_check_turn dc_check_turn pm_check_turn cd_check_turn ct_check_turn : Value}
    {f_Turner_take_back : Addr} {od_Turner_take_back an_Turner_take_back : Option Addr} {sl_Turner_take_back : Array (Option Value)} {oc_Turner_take_back kV_Turner_take_back dc_Turner_take_back pm_Turner_take_back cd_Turner_take_back ct_Turner_take_back : Value}
    {f_Turner_turn_rows : Addr} {od_Turner_turn_rows an_Turner_turn_rows : Option Addr} {sl_Turner_turn_rows : Array (Option Value)} {oc_Turner_turn_rows kV_Turner_turn_rows dc_Turner_turn_rows pm_Turner_turn_rows cd_Turner_turn_rows ct_Turner_turn_rows : Value}
    {f_Turner_turn_columns : Addr} {od_Turner_turn_columns an_Turner_turn_columns : Option Addr} {sl_Turner_turn_columns : Array (Option Value)} {oc_Turner_turn_columns kV_Turner_turn_columns dc_Turner_turn_columns pm_Turner_turn_columns cd_Turner_turn_columns ct_Turner_turn_columns : Value}
    {f_L_back : Addr} {od_L_back an_L_back : Option Addr} {sl_L_back : Array (Option Value)} {oc_L_back kV_L_back dc_L_back pm_L_back cd_L_back ct_L_back : Value}
    {f_L_do : Addr} {od_L_do an_L_do : Option Addr} {sl_L_do : Array (Option Value)} {oc_L_do kV_L_do dc_L_do pm_L_do cd_L_do ct_L_do : Value}
    {f_law : Addr} {od_law an_law : Option Addr} {sl_law : Array (Option Value)} {oc_law kV_law dc_law pm_law cd_law ct_law : Value}
    {t_MOST_ROWS : Tok}
    (X : K.In h) (G : h.Ns mainGlobals mg) (hfa : mg "law" = some (.ref fa))
    (ac_NoTurn : PySem.W.nsIn K mainGlobals "NoTurn" = some (some (.ref C_NoTurn)))
    (ac_Lines : PySem.W.nsIn K mainGlobals "Lines" = some (some (.ref C_Lines)))
    (ac_Turner : PySem.W.nsIn K mainGlobals "Turner" = some (some (.ref C_Turner)))
    (a_is_whole : PySem.W.nsIn K mainGlobals "is_whole" = some (some (.ref f_is_whole)))
    (l_is_whole : K.lookup f_is_whole = some ⟨oc_is_whole, od_is_whole, .func (PySem.W.fnOf "is_whole" "is_whole" (defArgs s_is_whole) (defBody s_is_whole) (defScope s_is_whole) .none kV_is_whole dc_is_whole pm_is_whole an_is_whole cd_is_whole ct_is_whole), sl_is_whole⟩)
    (c_is_whole : PySem.W.codeIn K cd_is_whole "is_whole" = true)
    (k_is_whole : PySem.W.keepIn K (.ref f_is_whole) = true)
    (a_column : PySem.W.nsIn K mainGlobals "column" = some (some (.ref f_column)))
    (l_column : K.lookup f_column = some ⟨oc_column, od_column, .func (PySem.W.fnOf "column" "column" (defArgs s_column) (defBody s_column) (defScope s_column) .none kV_column dc_column pm_column an_column cd_column ct_column), sl_column⟩)
    (c_column : PySem.W.codeIn K cd_column "column" = true)
    (k_column : PySem.W.keepIn K (.ref f_column) = true)
    (a_one_row : PySem.W.nsIn K mainGlobals "one_row" = some (some (.ref f_one_row)))
    (l_one_row : K.lookup f_one_row = some ⟨oc_one_row, od_one_row, .func (PySem.W.fnOf "one_row" "one_row" (defArgs s_one_row) (defBody s_one_row) (defScope s_one_row) .none kV_one_row dc_one_row pm_one_row an_one_row cd_one_row ct_one_row), sl_one_row⟩)
    (c_one_row : PySem.W.codeIn K cd_one_row "one_row" = true)
    (k_one_row : PySem.W.keepIn K (.ref f_one_row) = true)
    (a_mixed : PySem.W.nsIn K mainGlobals "mixed" = some (some (.ref f_mixed)))
    (l_mixed : K.lookup f_mixed = some ⟨oc_mixed, od_mixed, .func (PySem.W.fnOf "mixed" "mixed" (defArgs s_mixed) (defBody s_mixed) (defScope s_mixed) .none kV_mixed dc_mixed pm_mixed an_mixed cd_mixed ct_mixed), sl_mixed⟩)
    (c_mixed : PySem.W.codeIn K cd_mixed "mixed" = true)
    (k_mixed : PySem.W.keepIn K (.ref f_mixed) = true)
    (a_copied : PySem.W.nsIn K mainGlobals "copied" = some (some (.ref f_copied)))
    (l_copied : K.lookup f_copied = some ⟨oc_copied, od_copied, .func (PySem.W.fnOf "copied" "copied" (defArgs s_copied) (defBody s_copied) (defScope s_copied) .none kV_copied dc_copied pm_copied an_copied cd_copied ct_copied), sl_copied⟩)
    (c_copied : PySem.W.codeIn K cd_copied "copied" = true)
    (k_copied : PySem.W.keepIn K (.ref f_copied) = true)
    (a_across : PySem.W.nsIn K mainGlobals "across" = some (some (.ref f_across)))
    (l_across : K.lookup f_across = some ⟨oc_across, od_across, .func (PySem.W.fnOf "across" "across" (defArgs s_across) (defBody s_across) (defScope s_across) .none kV_across dc_across pm_across an_across cd_across ct_across), sl_across⟩)
    (c_across : PySem.W.codeIn K cd_across "across" = true)
    (k_across : PySem.W.keepIn K (.ref f_across) = true)
    (a_Lines__init_ : PySem.W.findIn K (.ref C_Lines) "__init__" = some (some (.ref f_Lines__init_)))
    (if_Lines__init_ : PySem.W.isFn K (.ref f_Lines__init_) = true)
    (l_Lines__init_ : K.lookup f_Lines__init_ = some ⟨oc_Lines__init_, od_Lines__init_, .func (PySem.W.fnOf "__init__" "Lines.__init__" (defArgs s_Lines__init_) (defBody s_Lines__init_) (defScope s_Lines__init_) .none kV_Lines__init_ dc_Lines__init_ pm_Lines__init_ an_Lines__init_ cd_Lines__init_ ct_Lines__init_), sl_Lines__init_⟩)
    (c_Lines__init_ : PySem.W.codeIn K cd_Lines__init_ "Lines.__init__" = true)
    (k_Lines__init_ : PySem.W.keepIn K (.ref f_Lines__init_) = true)
    (a_back_of : PySem.W.nsIn K mainGlobals "back_of" = some (some (.ref f_back_of)))
    (l_back_of : K.lookup f_back_of = some ⟨oc_back_of, od_back_of, .func (PySem.W.fnOf "back_of" "back_of" (defArgs s_back_of) (defBody s_back_of) (defScope s_back_of) .none kV_back_of dc_back_of pm_back_of an_back_of cd_back_of ct_back_of), sl_back_of⟩)
    (c_back_of : PySem.W.codeIn K cd_back_of "back_of" = true)
    (k_back_of : PySem.W.keepIn K (.ref f_back_of) = true)
    (a_Turner_many : PySem.W.findIn K (.ref C_Turner) "many" = some (some (.ref f_Turner_many)))
    (if_Turner_many : PySem.W.isFn K (.ref f_Turner_many) = true)
    (l_Turner_many : K.lookup f_Turner_many = some ⟨oc_Turner_many, od_Turner_many, .func (PySem.W.fnOf "many" "Turner.many" (defArgs s_Turner_many) (defBody s_Turner_many) (defScope s_Turner_many) .none kV_Turner_many dc_Turner_many pm_Turner_many an_Turner_many cd_Turner_many ct_Turner_many), sl_Turner_many⟩)
    (c_Turner_many : PySem.W.codeIn K cd_Turner_many "Turner.many" = true)
    (k_Turner_many : PySem.W.keepIn K (.ref f_Turner_many) = true)
    (a_L_whole : PySem.W.nsIn K mainGlobals "_law_whole" = some (some (.ref f_L_whole)))
    (l_L_whole : K.lookup f_L_whole = some ⟨oc_L_whole, od_L_whole, .func (PySem.W.fnOf "_law_whole" "_law_whole" (defArgs s_L_whole) (defBody s_L_whole) (defScope s_L_whole) .none kV_L_whole dc_L_whole pm_L_whole an_L_whole cd_L_whole ct_L_whole), sl_L_whole⟩)
    (c_L_whole : PySem.W.codeIn K cd_L_whole "_law_whole" = true)
    (k_L_whole : PySem.W.keepIn K (.ref f_L_whole) = true)
    (a_L_cell_at : PySem.W.nsIn K mainGlobals "_law_cell_at" = some (some (.ref f_L_cell_at)))
    (l_L_cell_at : K.lookup f_L_cell_at = some ⟨oc_L_cell_at, od_L_cell_at, .func (PySem.W.fnOf "_law_cell_at" "_law_cell_at" (defArgs s_L_cell_at) (defBody s_L_cell_at) (defScope s_L_cell_at) .none kV_L_cell_at dc_L_cell_at pm_L_cell_at an_L_cell_at cd_L_cell_at ct_L_cell_at), sl_L_cell_at⟩)
    (c_L_cell_at : PySem.W.codeIn K cd_L_cell_at "_law_cell_at" = true)
    (k_L_cell_at : PySem.W.keepIn K (.ref f_L_cell_at) = true)
    (a_L_spread : PySem.W.nsIn K mainGlobals "_law_spread" = some (some (.ref f_L_spread)))
    (l_L_spread : K.lookup f_L_spread = some ⟨oc_L_spread, od_L_spread, .func (PySem.W.fnOf "_law_spread" "_law_spread" (defArgs s_L_spread) (defBody s_L_spread) (defScope s_L_spread) .none kV_L_spread dc_L_spread pm_L_spread an_L_spread cd_L_spread ct_L_spread), sl_L_spread⟩)
    (c_L_spread : PySem.W.codeIn K cd_L_spread "_law_spread" = true)
    (k_L_spread : PySem.W.keepIn K (.ref f_L_spread) = true)
    (a_L_number_by : PySem.W.nsIn K mainGlobals "_law_number_by" = some (some (.ref f_L_number_by)))
    (l_L_number_by : K.lookup f_L_number_by = some ⟨oc_L_number_by, od_L_number_by, .func (PySem.W.fnOf "_law_number_by" "_law_number_by" (defArgs s_L_number_by) (defBody s_L_number_by) (defScope s_L_number_by) .none kV_L_number_by dc_L_number_by pm_L_number_by an_L_number_by cd_L_number_by ct_L_number_by), sl_L_number_by⟩)
    (c_L_number_by : PySem.W.codeIn K cd_L_number_by "_law_number_by" = true)
    (k_L_number_by : PySem.W.keepIn K (.ref f_L_number_by) = true)
    (a_L_copy : PySem.W.nsIn K mainGlobals "_law_copy" = some (some (.ref f_L_copy)))
    (l_L_copy : K.lookup f_L_copy = some ⟨oc_L_copy, od_L_copy, .func (PySem.W.fnOf "_law_copy" "_law_copy" (defArgs s_L_copy) (defBody s_L_copy) (defScope s_L_copy) .none kV_L_copy dc_L_copy pm_L_copy an_L_copy cd_L_copy ct_L_copy), sl_L_copy⟩)
    (c_L_copy : PySem.W.codeIn K cd_L_copy "_law_copy" = true)
    (k_L_copy : PySem.W.keepIn K (.ref f_L_copy) = true)
    (a_L_product_by : PySem.W.nsIn K mainGlobals "_law_product_by" = some (some (.ref f_L_product_by)))
    (l_L_product_by : K.lookup f_L_product_by = some ⟨oc_L_product_by, od_L_product_by, .func (PySem.W.fnOf "_law_product_by" "_law_product_by" (defArgs s_L_product_by) (defBody s_L_product_by) (defScope s_L_product_by) .none kV_L_product_by dc_L_product_by pm_L_product_by an_L_product_by cd_L_product_by ct_L_product_by), sl_L_product_by⟩)
    (c_L_product_by : PySem.W.codeIn K cd_L_product_by "_law_product_by" = true)
    (k_L_product_by : PySem.W.keepIn K (.ref f_L_product_by) = true)
    (a_L_one_by : PySem.W.nsIn K mainGlobals "_law_one_by" = some (some (.ref f_L_one_by)))
    (l_L_one_by : K.lookup f_L_one_by = some ⟨oc_L_one_by, od_L_one_by, .func (PySem.W.fnOf "_law_one_by" "_law_one_by" (defArgs s_L_one_by) (defBody s_L_one_by) (defScope s_L_one_by) .none kV_L_one_by dc_L_one_by pm_L_one_by an_L_one_by cd_L_one_by ct_L_one_by), sl_L_one_by⟩)
    (c_L_one_by : PySem.W.codeIn K cd_L_one_by "_law_one_by" = true)
    (k_L_one_by : PySem.W.keepIn K (.ref f_L_one_by) = true)
    (a_L_turn_by : PySem.W.nsIn K mainGlobals "_law_turn_by" = some (some (.ref f_L_turn_by)))
    (l_L_turn_by : K.lookup f_L_turn_by = some ⟨oc_L_turn_by, od_L_turn_by, .func (PySem.W.fnOf "_law_turn_by" "_law_turn_by" (defArgs s_L_turn_by) (defBody s_L_turn_by) (defScope s_L_turn_by) .none kV_L_turn_by dc_L_turn_by pm_L_turn_by an_L_turn_by cd_L_turn_by ct_L_turn_by), sl_L_turn_by⟩)
    (c_L_turn_by : PySem.W.codeIn K cd_L_turn_by "_law_turn_by" = true)
    (k_L_turn_by : PySem.W.keepIn K (.ref f_L_turn_by) = true)
    (a_L_flip : PySem.W.nsIn K mainGlobals "_law_flip" = some (some (.ref f_L_flip)))
    (l_L_flip : K.lookup f_L_flip = some ⟨oc_L_flip, od_L_flip, .func (PySem.W.fnOf "_law_flip" "_law_flip" (defArgs s_L_flip) (defBody s_L_flip) (defScope s_L_flip) .none kV_L_flip dc_L_flip pm_L_flip an_L_flip cd_L_flip ct_L_flip), sl_L_flip⟩)
    (c_L_flip : PySem.W.codeIn K cd_L_flip "_law_flip" = true)
    (k_L_flip : PySem.W.keepIn K (.ref f_L_flip) = true)
    (a_is_whole_below : PySem.W.nsIn K mainGlobals "is_whole_below" = some (some (.ref f_is_whole_below)))
    (l_is_whole_below : K.lookup f_is_whole_below = some ⟨oc_is_whole_below, od_is_whole_below, .func (PySem.W.fnOf "is_whole_below" "is_whole_below" (defArgs s_is_whole_below) (defBody s_is_whole_below) (defScope s_is_whole_below) .none kV_is_whole_below dc_is_whole_below pm_is_whole_below an_is_whole_below cd_is_whole_below ct_is_whole_below), sl_is_whole_below⟩)
    (c_is_whole_below : PySem.W.codeIn K cd_is_whole_below "is_whole_below" = true)
    (k_is_whole_below : PySem.W.keepIn K (.ref f_is_whole_below) = true)
    (a_is_list_of_wholes : PySem.W.nsIn K mainGlobals "is_list_of_wholes" = some (some (.ref f_is_list_of_wholes)))
    (l_is_list_of_wholes : K.lookup f_is_list_of_wholes = some ⟨oc_is_list_of_wholes, od_is_list_of_wholes, .func (PySem.W.fnOf "is_list_of_wholes" "is_list_of_wholes" (defArgs s_is_list_of_wholes) (defBody s_is_list_of_wholes) (defScope s_is_list_of_wholes) .none kV_is_list_of_wholes dc_is_list_of_wholes pm_is_list_of_wholes an_is_list_of_wholes cd_is_list_of_wholes ct_is_list_of_wholes), sl_is_list_of_wholes⟩)
    (c_is_list_of_wholes : PySem.W.codeIn K cd_is_list_of_wholes "is_list_of_wholes" = true)
    (k_is_list_of_wholes : PySem.W.keepIn K (.ref f_is_list_of_wholes) = true)
    (a_flipped : PySem.W.nsIn K mainGlobals "flipped" = some (some (.ref f_flipped)))
    (l_flipped : K.lookup f_flipped = some ⟨oc_flipped, od_flipped, .func (PySem.W.fnOf "flipped" "flipped" (defArgs s_flipped) (defBody s_flipped) (defScope s_flipped) .none kV_flipped dc_flipped pm_flipped an_flipped cd_flipped ct_flipped), sl_flipped⟩)
    (c_flipped : PySem.W.codeIn K cd_flipped "flipped" = true)
    (k_flipped : PySem.W.keepIn K (.ref f_flipped) = true)
    (a_ones : PySem.W.nsIn K mainGlobals "ones" = some (some (.ref f_ones)))
    (l_ones : K.lookup f_ones = some ⟨oc_ones, od_ones, .func (PySem.W.fnOf "ones" "ones" (defArgs s_ones) (defBody s_ones) (defScope s_ones) .none kV_ones dc_ones pm_ones an_ones cd_ones ct_ones), sl_ones⟩)
    (c_ones : PySem.W.codeIn K cd_ones "ones" = true)
    (k_ones : PySem.W.keepIn K (.ref f_ones) = true)
    (a_turned : PySem.W.nsIn K mainGlobals "turned" = some (some (.ref f_turned)))
    (l_turned : K.lookup f_turned = some ⟨oc_turned, od_turned, .func (PySem.W.fnOf "turned" "turned" (defArgs s_turned) (defBody s_turned) (defScope s_turned) .none kV_turned dc_turned pm_turned an_turned cd_turned ct_turned), sl_turned⟩)
    (c_turned : PySem.W.codeIn K cd_turned "turned" = true)
    (k_turned : PySem.W.keepIn K (.ref f_turned) = true)
    (a_Turner_now : PySem.W.findIn K (.ref C_Turner) "now" = some (some (.ref f_Turner_now)))
    (if_Turner_now : PySem.W.isFn K (.ref f_Turner_now) = true)
    (l_Turner_now : K.lookup f_Turner_now = some ⟨oc_Turner_now, od_Turner_now, .func (PySem.W.fnOf "now" "Turner.now" (defArgs s_Turner_now) (defBody s_Turner_now) (defScope s_Turner_now) .none kV_Turner_now dc_Turner_now pm_Turner_now an_Turner_now cd_Turner_now ct_Turner_now), sl_Turner_now⟩)
    (c_Turner_now : PySem.W.codeIn K cd_Turner_now "Turner.now" = true)
    (k_Turner_now : PySem.W.keepIn K (.ref f_Turner_now) = true)
    (a_L_table_by : PySem.W.nsIn K mainGlobals "_law_table_by" = some (some (.ref f_L_table_by)))
    (l_L_table_by : K.lookup f_L_table_by = some ⟨oc_L_table_by, od_L_table_by, .func (PySem.W.fnOf "_law_table_by" "_law_table_by" (defArgs s_L_table_by) (defBody s_L_table_by) (defScope s_L_table_by) .none kV_L_table_by dc_L_table_by pm_L_table_by an_L_table_by cd_L_table_by ct_L_table_by), sl_L_table_by⟩)
    (c_L_table_by : PySem.W.codeIn K cd_L_table_by "_law_table_by" = true)
    (k_L_table_by : PySem.W.keepIn K (.ref f_L_table_by) = true)
    (a_L_is_table : PySem.W.nsIn K mainGlobals "_law_is_table" = some (some (.ref f_L_is_table)))
    (l_L_is_table : K.lookup f_L_is_table = some ⟨oc_L_is_table, od_L_is_table, .func (PySem.W.fnOf "_law_is_table" "_law_is_table" (defArgs s_L_is_table) (defBody s_L_is_table) (defScope s_L_is_table) .none kV_L_is_table dc_L_is_table pm_L_is_table an_L_is_table cd_L_is_table ct_L_is_table), sl_L_is_table⟩)
    (c_L_is_table : PySem.W.codeIn K cd_L_is_table "_law_is_table" = true)
    (k_L_is_table : PySem.W.keepIn K (.ref f_L_is_table) = true)
    (a_L_rows_turned : PySem.W.nsIn K mainGlobals "_law_rows_turned" = some (some (.ref f_L_rows_turned)))
    (l_L_rows_turned : K.lookup f_L_rows_turned = some ⟨oc_L_rows_turned, od_L_rows_turned, .func (PySem.W.fnOf "_law_rows_turned" "_law_rows_turned" (defArgs s_L_rows_turned) (defBody s_L_rows_turned) (defScope s_L_rows_turned) .none kV_L_rows_turned dc_L_rows_turned pm_L_rows_turned an_L_rows_turned cd_L_rows_turned ct_L_rows_turned), sl_L_rows_turned⟩)
    (c_L_rows_turned : PySem.W.codeIn K cd_L_rows_turned "_law_rows_turned" = true)
    (k_L_rows_turned : PySem.W.keepIn K (.ref f_L_rows_turned) = true)
    (a_is_table : PySem.W.nsIn K mainGlobals "is_table" = some (some (.ref f_is_table)))
    (l_is_table : K.lookup f_is_table = some ⟨oc_is_table, od_is_table, .func (PySem.W.fnOf "is_table" "is_table" (defArgs s_is_table) (defBody s_is_table) (defScope s_is_table) .none kV_is_table dc_is_table pm_is_table an_is_table cd_is_table ct_is_table), sl_is_table⟩)
    (c_is_table : PySem.W.codeIn K cd_is_table "is_table" = true)
    (k_is_table : PySem.W.keepIn K (.ref f_is_table) = true)
    (a_Lines_turn : PySem.W.findIn K (.ref C_Lines) "turn" = some (some (.ref f_Lines_turn)))
    (if_Lines_turn : PySem.W.isFn K (.ref f_Lines_turn) = true)
    (l_Lines_turn : K.lookup f_Lines_turn = some ⟨oc_Lines_turn, od_Lines_turn, .func (PySem.W.fnOf "turn" "Lines.turn" (defArgs s_Lines_turn) (defBody s_Lines_turn) (defScope s_Lines_turn) .none kV_Lines_turn dc_Lines_turn pm_Lines_turn an_Lines_turn cd_Lines_turn ct_Lines_turn), sl_Lines_turn⟩)
    (c_Lines_turn : PySem.W.codeIn K cd_Lines_turn "Lines.turn" = true)
    (k_Lines_turn : PySem.W.keepIn K (.ref f_Lines_turn) = true)
    (a_are_two_lines : PySem.W.nsIn K mainGlobals "are_two_lines" = some (some (.ref f_are_two_lines)))
    (l_are_two_lines : K.lookup f_are_two_lines = some ⟨oc_are_two_lines, od_are_two_lines, .func (PySem.W.fnOf "are_two_lines" "are_two_lines" (defArgs s_are_two_lines) (defBody s_are_two_lines) (defScope s_are_two_lines) .none kV_are_two_lines dc_are_two_lines pm_are_two_lines an_are_two_lines cd_are_two_lines ct_are_two_lines), sl_are_two_lines⟩)
    (c_are_two_lines : PySem.W.codeIn K cd_are_two_lines "are_two_lines" = true)
    (k_are_two_lines : PySem.W.keepIn K (.ref f_are_two_lines) = true)
    (a_Turner_papers : PySem.W.findIn K (.ref C_Turner) "papers" = some (some (.ref f_Turner_papers)))
    (if_Turner_papers : PySem.W.isFn K (.ref f_Turner_papers) = true)
    (l_Turner_papers : K.lookup f_Turner_papers = some ⟨oc_Turner_papers, od_Turner_papers, .func (PySem.W.fnOf "papers" "Turner.papers" (defArgs s_Turner_papers) (defBody s_Turner_papers) (defScope s_Turner_papers) .none kV_Turner_papers dc_Turner_papers pm_Turner_papers an_Turner_papers cd_Turner_papers ct_Turner_papers), sl_Turner_papers⟩)
    (c_Turner_papers : PySem.W.codeIn K cd_Turner_papers "Turner.papers" = true)
    (k_Turner_papers : PySem.W.keepIn K (.ref f_Turner_papers) = true)
    (a_L_turned : PySem.W.nsIn K mainGlobals "_law_turned" = some (some (.ref f_L_turned)))
    (l_L_turned : K.lookup f_L_turned = some ⟨oc_L_turned, od_L_turned, .func (PySem.W.fnOf "_law_turned" "_law_turned" (defArgs s_L_turned) (defBody s_L_turned) (defScope s_L_turned) .none kV_L_turned dc_L_turned pm_L_turned an_L_turned cd_L_turned ct_L_turned), sl_L_turned⟩)
    (c_L_turned : PySem.W.codeIn K cd_L_turned "_law_turned" = true)
    (k_L_turned : PySem.W.keepIn K (.ref f_L_turned) = true)
    (a_L_now_is : PySem.W.nsIn K mainGlobals "_law_now_is" = some (some (.ref f_L_now_is)))
    (l_L_now_is : K.lookup f_L_now_is = some ⟨oc_L_now_is, od_L_now_is, .func (PySem.W.fnOf "_law_now_is" "_law_now_is" (defArgs s_L_now_is) (defBody s_L_now_is) (defScope s_L_now_is) .none kV_L_now_is dc_L_now_is pm_L_now_is an_L_now_is cd_L_now_is ct_L_now_is), sl_L_now_is⟩)
    (c_L_now_is : PySem.W.codeIn K cd_L_now_is "_law_now_is" = true)
    (k_L_now_is : PySem.W.keepIn K (.ref f_L_now_is) = true)
    (a_L_undo : PySem.W.nsIn K mainGlobals "_law_undo" = some (some (.ref f_L_undo)))
    (l_L_undo : K.lookup f_L_undo = some ⟨oc_L_undo, od_L_undo, .func (PySem.W.fnOf "_law_undo" "_law_undo" (defArgs s_L_undo) (defBody s_L_undo) (defScope s_L_undo) .none kV_L_undo dc_L_undo pm_L_undo an_L_undo cd_L_undo ct_L_undo), sl_L_undo⟩)
    (c_L_undo : PySem.W.codeIn K cd_L_undo "_law_undo" = true)
    (k_L_undo : PySem.W.keepIn K (.ref f_L_undo) = true)
    (a_is_turn : PySem.W.nsIn K mainGlobals "is_turn" = some (some (.ref f_is_turn)))
    (l_is_turn : K.lookup f_is_turn = some ⟨oc_is_turn, od_is_turn, .func (PySem.W.fnOf "is_turn" "is_turn" (defArgs s_is_turn) (defBody s_is_turn) (defScope s_is_turn) .none kV_is_turn dc_is_turn pm_is_turn an_is_turn cd_is_turn ct_is_turn), sl_is_turn⟩)
    (c_is_turn : PySem.W.codeIn K cd_is_turn "is_turn" = true)
    (k_is_turn : PySem.W.keepIn K (.ref f_is_turn) = true)
    (a_Turner__init_ : PySem.W.findIn K (.ref C_Turner) "__init__" = some (some (.ref f_Turner__init_)))
    (if_Turner__init_ : PySem.W.isFn K (.ref f_Turner__init_) = true)
    (l_Turner__init_ : K.lookup f_Turner__init_ = some ⟨oc_Turner__init_, od_Turner__init_, .func (PySem.W.fnOf "__init__" "Turner.__init__" (defArgs s_Turner__init_) (defBody s_Turner__init_) (defScope s_Turner__init_) .none kV_Turner__init_ dc_Turner__init_ pm_Turner__init_ an_Turner__init_ cd_Turner__init_ ct_Turner__init_), sl_Turner__init_⟩)
    (c_Turner__init_ : PySem.W.codeIn K cd_Turner__init_ "Turner.__init__" = true)
    (k_Turner__init_ : PySem.W.keepIn K (.ref f_Turner__init_) = true)
    (a_Turner_do_rows : PySem.W.findIn K (.ref C_Turner) "do_rows" = some (some (.ref f_Turner_do_rows)))
    (if_Turner_do_rows : PySem.W.isFn K (.ref f_Turner_do_rows) = true)
    (l_Turner_do_rows : K.lookup f_Turner_do_rows = some ⟨oc_Turner_do_rows, od_Turner_do_rows, .func (PySem.W.fnOf "do_rows" "Turner.do_rows" (defArgs s_Turner_do_rows) (defBody s_Turner_do_rows) (defScope s_Turner_do_rows) .none kV_Turner_do_rows dc_Turner_do_rows pm_Turner_do_rows an_Turner_do_rows cd_Turner_do_rows ct_Turner_do_rows), sl_Turner_do_rows⟩)
    (c_Turner_do_rows : PySem.W.codeIn K cd_Turner_do_rows "Turner.do_rows" = true)
    (k_Turner_do_rows : PySem.W.keepIn K (.ref f_Turner_do_rows) = true)
    (a_Turner_do_columns : PySem.W.findIn K (.ref C_Turner) "do_columns" = some (some (.ref f_Turner_do_columns)))
    (if_Turner_do_columns : PySem.W.isFn K (.ref f_Turner_do_columns) = true)
    (l_Turner_do_columns : K.lookup f_Turner_do_columns = some ⟨oc_Turner_do_columns, od_Turner_do_columns, .func (PySem.W.fnOf "do_columns" "Turner.do_columns" (defArgs s_Turner_do_columns) (defBody s_Turner_do_columns) (defScope s_Turner_do_columns) .none kV_Turner_do_columns dc_Turner_do_columns pm_Turner_do_columns an_Turner_do_columns cd_Turner_do_columns ct_Turner_do_columns), sl_Turner_do_columns⟩)
    (c_Turner_do_columns : PySem.W.codeIn K cd_Turner_do_columns "Turner.do_columns" = true)
    (k_Turner_do_columns : PySem.W.keepIn K (.ref f_Turner_do_columns) = true)
    (a_L_papers_hold : PySem.W.nsIn K mainGlobals "_law_papers_hold" = some (some (.ref f_L_papers_hold)))
    (l_L_papers_hold : K.lookup f_L_papers_hold = some ⟨oc_L_papers_hold, od_L_papers_hold, .func (PySem.W.fnOf "_law_papers_hold" "_law_papers_hold" (defArgs s_L_papers_hold) (defBody s_L_papers_hold) (defScope s_L_papers_hold) .none kV_L_papers_hold dc_L_papers_hold pm_L_papers_hold an_L_papers_hold cd_L_papers_hold ct_L_papers_hold), sl_L_papers_hold⟩)
    (c_L_papers_hold : PySem.W.codeIn K cd_L_papers_hold "_law_papers_hold" = true)
    (k_L_papers_hold : PySem.W.keepIn K (.ref f_L_papers_hold) = true)
    (a_check_turn : PySem.W.nsIn K mainGlobals "check_turn" = some (some (.ref f_check_turn)))
    (l_check_turn : K.lookup f_check_turn = some ⟨oc_check_turn, od_check_turn, .func (PySem.W.fnOf "check_turn" "check_turn" (defArgs s_check_turn) (defBody s_check_turn) (defScope s_check_turn) .none kV_check_turn dc_check_turn pm_check_turn an_check_turn cd_check_turn ct_check_turn), sl_check_turn⟩)
    (c_check_turn : PySem.W.codeIn K cd_check_turn "check_turn" = true)
    (k_check_turn : PySem.W.keepIn K (.ref f_check_turn) = true)
    (a_Turner_take_back : PySem.W.findIn K (.ref C_Turner) "take_back" = some (some (.ref f_Turner_take_back)))
    (if_Turner_take_back : PySem.W.isFn K (.ref f_Turner_take_back) = true)
    (l_Turner_take_back : K.lookup f_Turner_take_back = some ⟨oc_Turner_take_back, od_Turner_take_back, .func (PySem.W.fnOf "take_back" "Turner.take_back" (defArgs s_Turner_take_back) (defBody s_Turner_take_back) (defScope s_Turner_take_back) .none kV_Turner_take_back dc_Turner_take_back pm_Turner_take_back an_Turner_take_back cd_Turner_take_back ct_Turner_take_back), sl_Turner_take_back⟩)
    (c_Turner_take_back : PySem.W.codeIn K cd_Turner_take_back "Turner.take_back" = true)
    (k_Turner_take_back : PySem.W.keepIn K (.ref f_Turner_take_back) = true)
    (a_Turner_turn_rows : PySem.W.findIn K (.ref C_Turner) "turn_rows" = some (some (.ref f_Turner_turn_rows)))
    (if_Turner_turn_rows : PySem.W.isFn K (.ref f_Turner_turn_rows) = true)
    (l_Turner_turn_rows : K.lookup f_Turner_turn_rows = some ⟨oc_Turner_turn_rows, od_Turner_turn_rows, .func (PySem.W.fnOf "turn_rows" "Turner.turn_rows" (defArgs s_Turner_turn_rows) (defBody s_Turner_turn_rows) (defScope s_Turner_turn_rows) .none kV_Turner_turn_rows dc_Turner_turn_rows pm_Turner_turn_rows an_Turner_turn_rows cd_Turner_turn_rows ct_Turner_turn_rows), sl_Turner_turn_rows⟩)
    (c_Turner_turn_rows : PySem.W.codeIn K cd_Turner_turn_rows "Turner.turn_rows" = true)
    (k_Turner_turn_rows : PySem.W.keepIn K (.ref f_Turner_turn_rows) = true)
    (a_Turner_turn_columns : PySem.W.findIn K (.ref C_Turner) "turn_columns" = some (some (.ref f_Turner_turn_columns)))
    (if_Turner_turn_columns : PySem.W.isFn K (.ref f_Turner_turn_columns) = true)
    (l_Turner_turn_columns : K.lookup f_Turner_turn_columns = some ⟨oc_Turner_turn_columns, od_Turner_turn_columns, .func (PySem.W.fnOf "turn_columns" "Turner.turn_columns" (defArgs s_Turner_turn_columns) (defBody s_Turner_turn_columns) (defScope s_Turner_turn_columns) .none kV_Turner_turn_columns dc_Turner_turn_columns pm_Turner_turn_columns an_Turner_turn_columns cd_Turner_turn_columns ct_Turner_turn_columns), sl_Turner_turn_columns⟩)
    (c_Turner_turn_columns : PySem.W.codeIn K cd_Turner_turn_columns "Turner.turn_columns" = true)
    (k_Turner_turn_columns : PySem.W.keepIn K (.ref f_Turner_turn_columns) = true)
    (a_L_back : PySem.W.nsIn K mainGlobals "_law_back" = some (some (.ref f_L_back)))
    (l_L_back : K.lookup f_L_back = some ⟨oc_L_back, od_L_back, .func (PySem.W.fnOf "_law_back" "_law_back" (defArgs s_L_back) (defBody s_L_back) (defScope s_L_back) .none kV_L_back dc_L_back pm_L_back an_L_back cd_L_back ct_L_back), sl_L_back⟩)
    (c_L_back : PySem.W.codeIn K cd_L_back "_law_back" = true)
    (k_L_back : PySem.W.keepIn K (.ref f_L_back) = true)
    (a_L_do : PySem.W.nsIn K mainGlobals "_law_do" = some (some (.ref f_L_do)))
    (l_L_do : K.lookup f_L_do = some ⟨oc_L_do, od_L_do, .func (PySem.W.fnOf "_law_do" "_law_do" (defArgs s_L_do) (defBody s_L_do) (defScope s_L_do) .none kV_L_do dc_L_do pm_L_do an_L_do cd_L_do ct_L_do), sl_L_do⟩)
    (c_L_do : PySem.W.codeIn K cd_L_do "_law_do" = true)
    (k_L_do : PySem.W.keepIn K (.ref f_L_do) = true)
    (a_law : PySem.W.nsIn K mainGlobals "law" = some (some (.ref f_law)))
    (l_law : K.lookup f_law = some ⟨oc_law, od_law, .func (PySem.W.fnOf "law" "law" (defArgs s_law) (defBody s_law) (defScope s_law) .none kV_law dc_law pm_law an_law cd_law ct_law), sl_law⟩)
    (c_law : PySem.W.codeIn K cd_law "law" = true)
    (k_law : PySem.W.keepIn K (.ref f_law) = true)
    (mk_Lines : PySem.W.makesIn K C_Lines = true)
    (kc_Lines : PySem.W.keepIn K (.ref C_Lines) = true)
    (mk_Turner : PySem.W.makesIn K C_Turner = true)
    (kc_Turner : PySem.W.keepIn K (.ref C_Turner) = true)
    (ae_NoTurn : PySem.W.excIn K C_NoTurn bmV "ValueError.__new__" = true)
    (ak_NoTurn : PySem.W.ktsIn K C_NoTurn "BaseException" = true)
    (as_NoTurn_NoTurn : PySem.W.subIn K (.ref C_NoTurn) (.ref C_NoTurn) = some true)
    (pg_Lines : PySem.W.plainGet K C_Lines Str.empty = true)
    (hd_Lines : PySem.W.hasDictIn K C_Lines = true)
    (po_Lines : PySem.W.plainOver K C_Lines = true)
    (sa_Lines : PySem.W.findIn K (.ref C_Lines) "__setattr__" = some (some (.builtin "object.__setattr__")))
    (na_Lines_rows : PySem.W.findIn K (.ref C_Lines) "rows" = some none)
    (na_Lines_backs : PySem.W.findIn K (.ref C_Lines) "backs" = some none)
    (pg_Turner : PySem.W.plainGet K C_Turner Str.empty = true)
    (hd_Turner : PySem.W.hasDictIn K C_Turner = true)
    (po_Turner : PySem.W.plainOver K C_Turner = true)
    (sa_Turner : PySem.W.findIn K (.ref C_Turner) "__setattr__" = some (some (.builtin "object.__setattr__")))
    (na_Turner_table : PySem.W.findIn K (.ref C_Turner) "table" = some none)
    (na_Turner_width : PySem.W.findIn K (.ref C_Turner) "width" = some none)
    (na_Turner_left : PySem.W.findIn K (.ref C_Turner) "left" = some none)
    (na_Turner_right : PySem.W.findIn K (.ref C_Turner) "right" = some none)
    (na_Turner_done : PySem.W.findIn K (.ref C_Turner) "done" = some none)
    (aq_MOST_ROWS : PySem.W.nsIn K mainGlobals "MOST_ROWS" = some (some (.int 40 t_MOST_ROWS)))
    (z_isinstance : PySem.W.nsIn K mainGlobals "isinstance" = some none)
    (z_int : PySem.W.nsIn K mainGlobals "int" = some none)
    (z_bool : PySem.W.nsIn K mainGlobals "bool" = some none)
    (z_all : PySem.W.nsIn K mainGlobals "all" = some none)
    (z_list : PySem.W.nsIn K mainGlobals "list" = some none)
    (z_len : PySem.W.nsIn K mainGlobals "len" = some none)
    (z_range : PySem.W.nsIn K mainGlobals "range" = some none)
    (z_zip : PySem.W.nsIn K mainGlobals "zip" = some none)
    (z_tuple : PySem.W.nsIn K mainGlobals "tuple" = some none)
    (z_str : PySem.W.nsIn K mainGlobals "str" = some none)
    (z_max : PySem.W.nsIn K mainGlobals "max" = some none) :
    ∃ fd : FuncData, (∀ (s : Shared) (v : Value), BindsTo s fd ⟨[v], []⟩ [("_law_script", v)]) ∧ ∀ base : Heap, K.In base → base.Ns mainGlobals mg → FnOk l.prog w K mg base CX0 8 fa fd ["_law_script"] (sp_lawB K) := by
  have e := hfa.symm.trans (PySem.W.mg_of X G a_law)
  cases e
  have T : Txt K mg C_NoTurn C_Lines C_Turner := ⟨PySem.W.mg_of X G ac_NoTurn, ae_NoTurn, ak_NoTurn, as_NoTurn_NoTurn, PySem.W.mg_of X G ac_Lines, ⟨pg_Lines, hd_Lines, po_Lines, sa_Lines⟩, na_Lines_rows, na_Lines_backs, PySem.W.mg_of X G ac_Turner, ⟨pg_Turner, hd_Turner, po_Turner, sa_Turner⟩, na_Turner_table, na_Turner_width, na_Turner_left, na_Turner_right, na_Turner_done, ⟨_, PySem.W.mg_of X G aq_MOST_ROWS⟩, PySem.W.mg_none_of X G z_isinstance, PySem.W.mg_none_of X G z_int, PySem.W.mg_none_of X G z_bool, PySem.W.mg_none_of X G z_all, PySem.W.mg_none_of X G z_list, PySem.W.mg_none_of X G z_len, PySem.W.mg_none_of X G z_range, PySem.W.mg_none_of X G z_zip, PySem.W.mg_none_of X G z_tuple, PySem.W.mg_none_of X G z_str, PySem.W.mg_none_of X G z_max⟩
  have F_is_whole := fun_mk (st := s_is_whole) l_is_whole c_is_whole k_is_whole
  have F_column := fun_mk (st := s_column) l_column c_column k_column
  have F_one_row := fun_mk (st := s_one_row) l_one_row c_one_row k_one_row
  have F_mixed := fun_mk (st := s_mixed) l_mixed c_mixed k_mixed
  have F_copied := fun_mk (st := s_copied) l_copied c_copied k_copied
  have F_across := fun_mk (st := s_across) l_across c_across k_across
  have F_Lines__init_ := fun_mk (st := s_Lines__init_) l_Lines__init_ c_Lines__init_ k_Lines__init_
  have F_back_of := fun_mk (st := s_back_of) l_back_of c_back_of k_back_of
  have F_Turner_many := fun_mk (st := s_Turner_many) l_Turner_many c_Turner_many k_Turner_many
  have F_L_whole := fun_mk (st := s_L_whole) l_L_whole c_L_whole k_L_whole
  have F_L_cell_at := fun_mk (st := s_L_cell_at) l_L_cell_at c_L_cell_at k_L_cell_at
  have F_L_spread := fun_mk (st := s_L_spread) l_L_spread c_L_spread k_L_spread
  have F_L_number_by := fun_mk (st := s_L_number_by) l_L_number_by c_L_number_by k_L_number_by
  have F_L_copy := fun_mk (st := s_L_copy) l_L_copy c_L_copy k_L_copy
  have F_L_product_by := fun_mk (st := s_L_product_by) l_L_product_by c_L_product_by k_L_product_by
  have F_L_one_by := fun_mk (st := s_L_one_by) l_L_one_by c_L_one_by k_L_one_by
  have F_L_turn_by := fun_mk (st := s_L_turn_by) l_L_turn_by c_L_turn_by k_L_turn_by
  have F_L_flip := fun_mk (st := s_L_flip) l_L_flip c_L_flip k_L_flip
  have F_is_whole_below := fun_mk (st := s_is_whole_below) l_is_whole_below c_is_whole_below k_is_whole_below
  have F_is_list_of_wholes := fun_mk (st := s_is_list_of_wholes) l_is_list_of_wholes c_is_list_of_wholes k_is_list_of_wholes
  have F_flipped := fun_mk (st := s_flipped) l_flipped c_flipped k_flipped
  have F_ones := fun_mk (st := s_ones) l_ones c_ones k_ones
  have F_turned := fun_mk (st := s_turned) l_turned c_turned k_turned
  have F_Turner_now := fun_mk (st := s_Turner_now) l_Turner_now c_Turner_now k_Turner_now
  have F_L_table_by := fun_mk (st := s_L_table_by) l_L_table_by c_L_table_by k_L_table_by
  have F_L_is_table := fun_mk (st := s_L_is_table) l_L_is_table c_L_is_table k_L_is_table
  have F_L_rows_turned := fun_mk (st := s_L_rows_turned) l_L_rows_turned c_L_rows_turned k_L_rows_turned
  have F_is_table := fun_mk (st := s_is_table) l_is_table c_is_table k_is_table
  have F_Lines_turn := fun_mk (st := s_Lines_turn) l_Lines_turn c_Lines_turn k_Lines_turn
  have F_are_two_lines := fun_mk (st := s_are_two_lines) l_are_two_lines c_are_two_lines k_are_two_lines
  have F_Turner_papers := fun_mk (st := s_Turner_papers) l_Turner_papers c_Turner_papers k_Turner_papers
  have F_L_turned := fun_mk (st := s_L_turned) l_L_turned c_L_turned k_L_turned
  have F_L_now_is := fun_mk (st := s_L_now_is) l_L_now_is c_L_now_is k_L_now_is
  have F_L_undo := fun_mk (st := s_L_undo) l_L_undo c_L_undo k_L_undo
  have F_is_turn := fun_mk (st := s_is_turn) l_is_turn c_is_turn k_is_turn
  have F_Turner__init_ := fun_mk (st := s_Turner__init_) l_Turner__init_ c_Turner__init_ k_Turner__init_
  have F_Turner_do_rows := fun_mk (st := s_Turner_do_rows) l_Turner_do_rows c_Turner_do_rows k_Turner_do_rows
  have F_Turner_do_columns := fun_mk (st := s_Turner_do_columns) l_Turner_do_columns c_Turner_do_columns k_Turner_do_columns
  have F_L_papers_hold := fun_mk (st := s_L_papers_hold) l_L_papers_hold c_L_papers_hold k_L_papers_hold
  have F_check_turn := fun_mk (st := s_check_turn) l_check_turn c_check_turn k_check_turn
  have F_Turner_take_back := fun_mk (st := s_Turner_take_back) l_Turner_take_back c_Turner_take_back k_Turner_take_back
  have F_Turner_turn_rows := fun_mk (st := s_Turner_turn_rows) l_Turner_turn_rows c_Turner_turn_rows k_Turner_turn_rows
  have F_Turner_turn_columns := fun_mk (st := s_Turner_turn_columns) l_Turner_turn_columns c_Turner_turn_columns k_Turner_turn_columns
  have F_L_back := fun_mk (st := s_L_back) l_L_back c_L_back k_L_back
  have F_L_do := fun_mk (st := s_L_do) l_L_do c_L_do k_L_do
  have F_law := fun_mk (st := s_law) l_law c_law k_law
  refine ⟨PySem.W.fnOf "law" "law" (defArgs s_law) (defBody s_law) (defScope s_law) .none kV_law dc_law pm_law an_law cd_law ct_law, fun s v => .of_eq rfl, fun base _ _ => ?_⟩
  have h_is_whole : Has l.prog w K mg base "is_whole" ["thing"] 1 (sp_is_whole K) := ⟨_, _, PySem.W.mg_of X G a_is_whole, k_is_whole, F_is_whole.binds (ps := ["thing"]) (fun _ _ _ _ _ _ => elim1 (fun _ => rfl)), ok_is_whole F_is_whole T ⟩
  have h_column : Has l.prog w K mg base "column" ["table", "j"] 1 (sp_column K) := ⟨_, _, PySem.W.mg_of X G a_column, k_column, F_column.binds (ps := ["table", "j"]) (fun _ _ _ _ _ _ => elim2 (fun _ _ => rfl)), ok_column F_column T ⟩
  have h_one_row : Has l.prog w K mg base "one_row" ["size", "i"] 1 (sp_one_row K) := ⟨_, _, PySem.W.mg_of X G a_one_row, k_one_row, F_one_row.binds (ps := ["size", "i"]) (fun _ _ _ _ _ _ => elim2 (fun _ _ => rfl)), ok_one_row F_one_row T ⟩
  have h_mixed : Has l.prog w K mg base "mixed" ["a", "one", "b", "other"] 1 (sp_mixed K) := ⟨_, _, PySem.W.mg_of X G a_mixed, k_mixed, F_mixed.binds (ps := ["a", "one", "b", "other"]) (fun _ _ _ _ _ _ => elim4 (fun _ _ _ _ => rfl)), ok_mixed F_mixed T ⟩
  have h_copied : Has l.prog w K mg base "copied" ["table"] 1 (sp_copied K) := ⟨_, _, PySem.W.mg_of X G a_copied, k_copied, F_copied.binds (ps := ["table"]) (fun _ _ _ _ _ _ => elim1 (fun _ => rfl)), ok_copied F_copied T ⟩
  have h_across : Has l.prog w K mg base "across" ["turn"] 1 (sp_across K) := ⟨_, _, PySem.W.mg_of X G a_across, k_across, F_across.binds (ps := ["turn"]) (fun _ _ _ _ _ _ => elim1 (fun _ => rfl)), ok_across F_across T ⟩
  have hc_Lines : HasC l.prog w K mg base C_Lines ["self", "rows", "backs"] 1 (sp_Lines__init_ K C_Lines C_Turner) := ⟨_, _, ⟨mk_Lines, a_Lines__init_, if_Lines__init_, kc_Lines⟩, F_Lines__init_.binds (ps := ["self", "rows", "backs"]) (fun _ _ _ _ _ _ => elim3 (fun _ _ _ => rfl)), ok_Lines__init_ F_Lines__init_ T ⟩
  have h_back_of : Has l.prog w K mg base "back_of" ["turn"] 1 (sp_back_of K) := ⟨_, _, PySem.W.mg_of X G a_back_of, k_back_of, F_back_of.binds (ps := ["turn"]) (fun _ _ _ _ _ _ => elim1 (fun _ => rfl)), ok_back_of F_back_of T ⟩
  have hm_Turner_many : HasM l.prog w K mg base C_Turner "many" ["self"] 1 (spW_many K C_Lines C_Turner) := ⟨_, _, ⟨a_Turner_many, if_Turner_many, k_Turner_many⟩, F_Turner_many.binds (ps := ["self"]) (fun _ _ _ _ _ _ => elim1 (fun _ => rfl)), ok_Turner_many F_Turner_many T ⟩
  have h_L_whole : Has l.prog w K mg base "_law_whole" ["_law_found"] 1 (sp_L_whole K) := ⟨_, _, PySem.W.mg_of X G a_L_whole, k_L_whole, F_L_whole.binds (ps := ["_law_found"]) (fun _ _ _ _ _ _ => elim1 (fun _ => rfl)), ok_L_whole F_L_whole T ⟩
  have h_L_cell_at : Has l.prog w K mg base "_law_cell_at" ["_law_script", "_law_k"] 1 (sp_L_cell_at K) := ⟨_, _, PySem.W.mg_of X G a_L_cell_at, k_L_cell_at, F_L_cell_at.binds (ps := ["_law_script", "_law_k"]) (fun _ _ _ _ _ _ => elim2 (fun _ _ => rfl)), ok_L_cell_at F_L_cell_at T ⟩
  have h_L_spread : Has l.prog w K mg base "_law_spread" ["_law_script", "_law_k"] 1 (sp_L_spread K) := ⟨_, _, PySem.W.mg_of X G a_L_spread, k_L_spread, F_L_spread.binds (ps := ["_law_script", "_law_k"]) (fun _ _ _ _ _ _ => elim2 (fun _ _ => rfl)), ok_L_spread F_L_spread T ⟩
  have h_L_number_by : Has l.prog w K mg base "_law_number_by" ["_law_cell", "_law_kind"] 1 (sp_L_number_by K) := ⟨_, _, PySem.W.mg_of X G a_L_number_by, k_L_number_by, F_L_number_by.binds (ps := ["_law_cell", "_law_kind"]) (fun _ _ _ _ _ _ => elim2 (fun _ _ => rfl)), ok_L_number_by F_L_number_by T ⟩
  have h_L_copy : Has l.prog w K mg base "_law_copy" ["_law_table"] 1 (spW_copy K) := ⟨_, _, PySem.W.mg_of X G a_L_copy, k_L_copy, F_L_copy.binds (ps := ["_law_table"]) (fun _ _ _ _ _ _ => elim1 (fun _ => rfl)), ok_L_copy F_L_copy T ⟩
  have h_L_product_by : Has l.prog w K mg base "_law_product_by" ["_law_one", "_law_other", "_law_width"] 1 (sp_L_product_by K) := ⟨_, _, PySem.W.mg_of X G a_L_product_by, k_L_product_by, F_L_product_by.binds (ps := ["_law_one", "_law_other", "_law_width"]) (fun _ _ _ _ _ _ => elim3 (fun _ _ _ => rfl)), ok_L_product_by F_L_product_by T ⟩
  have h_L_one_by : Has l.prog w K mg base "_law_one_by" ["_law_size"] 1 (sp_L_one_by K) := ⟨_, _, PySem.W.mg_of X G a_L_one_by, k_L_one_by, F_L_one_by.binds (ps := ["_law_size"]) (fun _ _ _ _ _ _ => elim1 (fun _ => rfl)), ok_L_one_by F_L_one_by T ⟩
  have h_L_turn_by : Has l.prog w K mg base "_law_turn_by" ["_law_cell", "_law_lines", "_law_number"] 1 (sp_L_turn_by K) := ⟨_, _, PySem.W.mg_of X G a_L_turn_by, k_L_turn_by, F_L_turn_by.binds (ps := ["_law_cell", "_law_lines", "_law_number"]) (fun _ _ _ _ _ _ => elim3 (fun _ _ _ => rfl)), ok_L_turn_by F_L_turn_by T ⟩
  have h_L_flip : Has l.prog w K mg base "_law_flip" ["_law_table", "_law_width"] 1 (sp_L_flip K) := ⟨_, _, PySem.W.mg_of X G a_L_flip, k_L_flip, F_L_flip.binds (ps := ["_law_table", "_law_width"]) (fun _ _ _ _ _ _ => elim2 (fun _ _ => rfl)), ok_L_flip F_L_flip T ⟩
  have h_is_whole_below : Has l.prog w K mg base "is_whole_below" ["thing", "bound"] 2 (sp_is_whole_below K) := ⟨_, _, PySem.W.mg_of X G a_is_whole_below, k_is_whole_below, F_is_whole_below.binds (ps := ["thing", "bound"]) (fun _ _ _ _ _ _ => elim2 (fun _ _ => rfl)), ok_is_whole_below F_is_whole_below T h_is_whole⟩
  have h_is_list_of_wholes : Has l.prog w K mg base "is_list_of_wholes" ["thing", "many"] 2 (sp_is_list_of_wholes K) := ⟨_, _, PySem.W.mg_of X G a_is_list_of_wholes, k_is_list_of_wholes, F_is_list_of_wholes.binds (ps := ["thing", "many"]) (fun _ _ _ _ _ _ => elim2 (fun _ _ => rfl)), ok_is_list_of_wholes F_is_list_of_wholes T h_is_whole⟩
  have h_flipped : Has l.prog w K mg base "flipped" ["table", "width"] 2 (sp_flipped K) := ⟨_, _, PySem.W.mg_of X G a_flipped, k_flipped, F_flipped.binds (ps := ["table", "width"]) (fun _ _ _ _ _ _ => elim2 (fun _ _ => rfl)), ok_flipped F_flipped T h_column⟩
  have h_ones : Has l.prog w K mg base "ones" ["size"] 2 (sp_ones K) := ⟨_, _, PySem.W.mg_of X G a_ones, k_ones, F_ones.binds (ps := ["size"]) (fun _ _ _ _ _ _ => elim1 (fun _ => rfl)), ok_ones F_ones T h_one_row⟩
  have h_turned : Has l.prog w K mg base "turned" ["lines", "turn"] 2 (sp_turned K) := ⟨_, _, PySem.W.mg_of X G a_turned, k_turned, F_turned.binds (ps := ["lines", "turn"]) (fun _ _ _ _ _ _ => elim2 (fun _ _ => rfl)), ok_turned F_turned T h_mixed⟩
  have hm_Turner_now : HasM l.prog w K mg base C_Turner "now" ["self"] 2 (spW_now K C_Lines C_Turner) := ⟨_, _, ⟨a_Turner_now, if_Turner_now, k_Turner_now⟩, F_Turner_now.binds (ps := ["self"]) (fun _ _ _ _ _ _ => elim1 (fun _ => rfl)), ok_Turner_now F_Turner_now T h_copied⟩
  have h_L_table_by : Has l.prog w K mg base "_law_table_by" ["_law_script", "_law_begin", "_law_height", "_law_width", "_law_kind"] 2 (sp_L_table_by K) := ⟨_, _, PySem.W.mg_of X G a_L_table_by, k_L_table_by, F_L_table_by.binds (ps := ["_law_script", "_law_begin", "_law_height", "_law_width", "_law_kind"]) (fun _ _ _ _ _ _ => elim5 (fun _ _ _ _ _ => rfl)), ok_L_table_by F_L_table_by T h_L_number_by h_L_spread⟩
  have h_L_is_table : Has l.prog w K mg base "_law_is_table" ["_law_found", "_law_height", "_law_width"] 2 (sp_L_is_table K) := ⟨_, _, PySem.W.mg_of X G a_L_is_table, k_L_is_table, F_L_is_table.binds (ps := ["_law_found", "_law_height", "_law_width"]) (fun _ _ _ _ _ _ => elim3 (fun _ _ _ => rfl)), ok_L_is_table F_L_is_table T h_L_whole⟩
  have h_L_rows_turned : Has l.prog w K mg base "_law_rows_turned" ["_law_table", "_law_turn"] 2 (sp_L_rows_turned K) := ⟨_, _, PySem.W.mg_of X G a_L_rows_turned, k_L_rows_turned, F_L_rows_turned.binds (ps := ["_law_table", "_law_turn"]) (fun _ _ _ _ _ _ => elim2 (fun _ _ => rfl)), ok_L_rows_turned F_L_rows_turned T h_L_copy⟩
  have h_is_table : Has l.prog w K mg base "is_table" ["thing", "width"] 3 (sp_is_table K) := ⟨_, _, PySem.W.mg_of X G a_is_table, k_is_table, F_is_table.binds (ps := ["thing", "width"]) (fun _ _ _ _ _ _ => elim2 (fun _ _ => rfl)), ok_is_table F_is_table T h_is_list_of_wholes⟩
  have hm_Lines_turn : HasM l.prog w K mg base C_Lines "turn" ["self", "turn"] 3 (spW_Lines_turn K C_Lines C_Turner) := ⟨_, _, ⟨a_Lines_turn, if_Lines_turn, k_Lines_turn⟩, F_Lines_turn.binds (ps := ["self", "turn"]) (fun _ _ _ _ _ _ => elim2 (fun _ _ => rfl)), ok_Lines_turn F_Lines_turn T h_turned h_across⟩
  have h_are_two_lines : Has l.prog w K mg base "are_two_lines" ["one", "other", "many"] 3 (sp_are_two_lines K) := ⟨_, _, PySem.W.mg_of X G a_are_two_lines, k_are_two_lines, F_are_two_lines.binds (ps := ["one", "other", "many"]) (fun _ _ _ _ _ _ => elim3 (fun _ _ _ => rfl)), ok_are_two_lines F_are_two_lines T h_is_whole_below⟩
  have hm_Turner_papers : HasM l.prog w K mg base C_Turner "papers" ["self"] 3 (spW_papers K C_Lines C_Turner) := ⟨_, _, ⟨a_Turner_papers, if_Turner_papers, k_Turner_papers⟩, F_Turner_papers.binds (ps := ["self"]) (fun _ _ _ _ _ _ => elim1 (fun _ => rfl)), ok_Turner_papers F_Turner_papers T h_flipped h_copied⟩
  have h_L_turned : Has l.prog w K mg base "_law_turned" ["_law_table", "_law_width", "_law_of_rows", "_law_turn"] 3 (sp_L_turned K) := ⟨_, _, PySem.W.mg_of X G a_L_turned, k_L_turned, F_L_turned.binds (ps := ["_law_table", "_law_width", "_law_of_rows", "_law_turn"]) (fun _ _ _ _ _ _ => elim4 (fun _ _ _ _ => rfl)), ok_L_turned F_L_turned T h_L_flip h_L_rows_turned⟩
  have h_L_now_is : Has l.prog w K mg base "_law_now_is" ["_law_turner", "_law_states", "_law_width", "_law_held"] 3 (spW_now_is K C_Lines C_Turner) := ⟨_, _, PySem.W.mg_of X G a_L_now_is, k_L_now_is, F_L_now_is.binds (ps := ["_law_turner", "_law_states", "_law_width", "_law_held"]) (fun _ _ _ _ _ _ => elim4 (fun _ _ _ _ => rfl)), ok_L_now_is F_L_now_is T hm_Turner_now hm_Turner_many h_L_is_table h_L_whole h_L_copy⟩
  have h_L_undo : Has l.prog w K mg base "_law_undo" ["_law_one", "_law_other", "_law_size"] 3 (spW_undo K) := ⟨_, _, PySem.W.mg_of X G a_L_undo, k_L_undo, F_L_undo.binds (ps := ["_law_one", "_law_other", "_law_size"]) (fun _ _ _ _ _ _ => elim3 (fun _ _ _ => rfl)), ok_L_undo F_L_undo T h_L_one_by h_L_is_table h_L_product_by⟩
  have h_is_turn : Has l.prog w K mg base "is_turn" ["thing", "many"] 4 (sp_is_turn K) := ⟨_, _, PySem.W.mg_of X G a_is_turn, k_is_turn, F_is_turn.binds (ps := ["thing", "many"]) (fun _ _ _ _ _ _ => elim2 (fun _ _ => rfl)), ok_is_turn F_is_turn T h_is_whole_below h_are_two_lines h_is_whole⟩
  have hc_Turner : HasC l.prog w K mg base C_Turner ["self", "table", "width"] 4 (spW_init K C_Lines C_Turner) := ⟨_, _, ⟨mk_Turner, a_Turner__init_, if_Turner__init_, kc_Turner⟩, F_Turner__init_.binds (ps := ["self", "table", "width"]) (fun _ _ _ _ _ _ => elim3 (fun _ _ _ => rfl)), ok_Turner__init_ F_Turner__init_ T h_copied hc_Lines h_is_table h_ones⟩
  have hm_Turner_do_rows : HasM l.prog w K mg base C_Turner "do_rows" ["self", "turn"] 4 (spW_do_rows K C_Lines C_Turner) := ⟨_, _, ⟨a_Turner_do_rows, if_Turner_do_rows, k_Turner_do_rows⟩, F_Turner_do_rows.binds (ps := ["self", "turn"]) (fun _ _ _ _ _ _ => elim2 (fun _ _ => rfl)), ok_Turner_do_rows F_Turner_do_rows T h_turned hm_Lines_turn⟩
  have hm_Turner_do_columns : HasM l.prog w K mg base C_Turner "do_columns" ["self", "turn"] 4 (spW_do_columns K C_Lines C_Turner) := ⟨_, _, ⟨a_Turner_do_columns, if_Turner_do_columns, k_Turner_do_columns⟩, F_Turner_do_columns.binds (ps := ["self", "turn"]) (fun _ _ _ _ _ _ => elim2 (fun _ _ => rfl)), ok_Turner_do_columns F_Turner_do_columns T h_flipped hm_Lines_turn h_turned⟩
  have h_L_papers_hold : Has l.prog w K mg base "_law_papers_hold" ["_law_turner", "_law_table", "_law_now", "_law_width", "_law_held"] 4 (spW_papers_hold K C_Lines C_Turner) := ⟨_, _, PySem.W.mg_of X G a_L_papers_hold, k_L_papers_hold, F_L_papers_hold.binds (ps := ["_law_turner", "_law_table", "_law_now", "_law_width", "_law_held"]) (fun _ _ _ _ _ _ => elim5 (fun _ _ _ _ _ => rfl)), ok_L_papers_hold F_L_papers_hold T hm_Turner_papers h_L_product_by h_L_undo h_L_copy⟩
  have h_check_turn : Has l.prog w K mg base "check_turn" ["thing", "many"] 5 (sp_check_turn K) := ⟨_, _, PySem.W.mg_of X G a_check_turn, k_check_turn, F_check_turn.binds (ps := ["thing", "many"]) (fun _ _ _ _ _ _ => elim2 (fun _ _ => rfl)), ok_check_turn F_check_turn T h_is_turn⟩
  have hmx_Turner_take_back : HasMX l.prog w K mg base C_Turner "take_back" ["self"] 5 (spW_take_back K C_Lines C_Turner C_NoTurn) := ⟨_, _, ⟨a_Turner_take_back, if_Turner_take_back, k_Turner_take_back⟩, F_Turner_take_back.binds (ps := ["self"]) (fun _ _ _ _ _ _ => elim1 (fun _ => rfl)), ok_Turner_take_back F_Turner_take_back T hm_Turner_do_rows hm_Turner_do_columns h_back_of⟩
  have hm_Turner_turn_rows : HasM l.prog w K mg base C_Turner "turn_rows" ["self", "thing"] 6 (spW_turn_rows K C_Lines C_Turner) := ⟨_, _, ⟨a_Turner_turn_rows, if_Turner_turn_rows, k_Turner_turn_rows⟩, F_Turner_turn_rows.binds (ps := ["self", "thing"]) (fun _ _ _ _ _ _ => elim2 (fun _ _ => rfl)), ok_Turner_turn_rows F_Turner_turn_rows T h_check_turn hm_Turner_do_rows⟩
  have hm_Turner_turn_columns : HasM l.prog w K mg base C_Turner "turn_columns" ["self", "thing"] 6 (spW_turn_columns K C_Lines C_Turner) := ⟨_, _, ⟨a_Turner_turn_columns, if_Turner_turn_columns, k_Turner_turn_columns⟩, F_Turner_turn_columns.binds (ps := ["self", "thing"]) (fun _ _ _ _ _ _ => elim2 (fun _ _ => rfl)), ok_Turner_turn_columns F_Turner_turn_columns T h_check_turn hm_Turner_do_columns⟩
  have h_L_back : Has l.prog w K mg base "_law_back" ["_law_turner"] 6 (spW_back K C_Lines C_Turner) := ⟨_, _, PySem.W.mg_of X G a_L_back, k_L_back, F_L_back.binds (ps := ["_law_turner"]) (fun _ _ _ _ _ _ => elim1 (fun _ => rfl)), ok_L_back F_L_back T hmx_Turner_take_back⟩
  have h_L_do : Has l.prog w K mg base "_law_do" ["_law_turner", "_law_of_rows", "_law_turn"] 7 (spW_do K C_Lines C_Turner) := ⟨_, _, PySem.W.mg_of X G a_L_do, k_L_do, F_L_do.binds (ps := ["_law_turner", "_law_of_rows", "_law_turn"]) (fun _ _ _ _ _ _ => elim3 (fun _ _ _ => rfl)), ok_L_do F_L_do T hm_Turner_turn_columns hm_Turner_turn_rows⟩
  exact ok_law F_law T h_L_table_by hc_Turner h_L_cell_at h_L_copy h_L_turn_by h_L_papers_hold h_L_now_is hm_Turner_now hm_Turner_many h_L_back h_L_do h_L_turned
theorem walk {l : PySem.W.OpenLaw} {q : Program} {loose : List Str} {XP : (Str → Option Value) → Heap → Prop} {YP : World → Heap → Prop} {d : DefRec} {K : Params → PySem.W.Frag} (hn : l.most = some 63) (hdf : d.params.defaults = [])
    (hY : ∀ (w : World) (h : Heap), YP w h → (K w.params).In h)
    (F : ∀ (w : World) (mg : Str → Option Value) (fa : Addr) (h : Heap), (K w.params).In h → h.Ns mainGlobals mg → mg d.name = some (.ref fa) →
      ∃ fd : FuncData, (∀ (s : Shared) (u : Value), BindsTo s fd ⟨[u], []⟩ [("_law_script", u)]) ∧ ∀ base : Heap, (K w.params).In base → base.Ns mainGlobals mg → FnOk l.prog w (K w.params) mg base CX0 8 fa fd ["_law_script"] (sp_lawB (K w.params))) :
    PySem.W.WalkO q loose XP YP l.row.toRowW d [] (fun f vs => PySem.call f vs) :=
  L2.walk_ofB (n := 63) (k := 8) (x := "_law_script") (CX := fun _ => CX0) (sp := fun w => sp_lawB (K w.params)) hn (by decide) hdf ⟨rfl, by decide, by decide, rfl⟩ hY F (fun _ _ a ns hl hbit _ hS => ⟨a, ns, rfl, hS, hl, hbit, fun _ => rfl⟩) fun _ _ _ _ _ z => z
end Hb
def PySem.W.Fast.tw1687221097878786590 : Nat := 0
def PySem.W.Fast.tw1649020229298882205 : Nat := 0
def PySem.W.Fast.tw11695437698071341463 : Nat := 0
def PySem.W.Fast.tw536590104762334959 : Nat := 0
def PySem.W.Fast.tw5812161448939596662 : Nat := 0
def PySem.W.Fast.tw7448303509382481379 : Nat := 0
def PySem.W.Fast.tw15771275272361532575 : Nat := 0
def PySem.W.Fast.tw9306528246013499260 : Nat := 0
def PySem.W.Fast.tw15445465983008081325 : Nat := 0
def PySem.W.Fast.tw8152174033629419490 : Nat := 0
def PySem.W.Fast.tw14729352518983883279 : Nat := 0
def PySem.W.Fast.tw574207363607268718 : Nat := 0
def PySem.W.Fast.tw10098243536631252400 : Nat := 0
def PySem.W.Fast.tw7152662778341569571 : Nat := 0
def PySem.W.Fast.tw1307082552479789623 : Nat := 0
def PySem.W.Fast.tw10495707146954644266 : Nat := 0
def PySem.W.Fast.tw5324994245262274046 : Nat := 0
def PySem.W.Fast.tw18290499351515264655 : Nat := 0
def PySem.W.Fast.tw10591167989701627876 : Nat := 0
def PySem.W.Fast.tw13644241156917207204 : Nat := 0
def PySem.W.Fast.tw9926900233724868907 : Nat := 0
def PySem.W.Fast.tw12242032420998885476 : Nat := 0
def PySem.W.Fast.tw8380403269745426585 : Nat := 0
def PySem.W.Fast.tw16350303097758545854 : Nat := 0
def PySem.W.Fast.tw14715653506670064943 : Nat := 0
def PySem.W.Fast.tw456629518438228015 : Nat := 0
def PySem.W.Fast.tw17033849111841931322 : Nat := 0
def PySem.W.Fast.tw3428076192528442542 : Nat := 0
def PySem.W.Fast.tw4421863518913821271 : Nat := 0
def PySem.W.Fast.tw18204568286343319384 : Nat := 0
def PySem.W.Fast.tw17082783610683825572 : Nat := 0
def PySem.W.Fast.tw1603894801521048626 : Nat := 0
def PySem.W.Fast.tw7034499554102493613 : Nat := 0
def PySem.W.Fast.tw16247282998665702590 : Nat := 0
def PySem.W.Fast.tw18026032927908421222 : Nat := 0
def PySem.W.Fast.tw1693129307672295062 : Nat := 0
def PySem.W.Fast.tw17128938462891786450 : Nat := 0
def PySem.W.Fast.tw15618795761181824629 : Nat := 0
def PySem.W.Fast.tw4019352301535338719 : Nat := 0
def PySem.W.Fast.tw5936959061901326769 : Nat := 0
def PySem.W.Fast.tw307215535289140615 : Nat := 0
def PySem.W.Fast.tw6279347998714038613 : Nat := 0
def PySem.W.Fast.tw1597128076572855373 : Nat := 0
def PySem.W.Fast.tw5674163239973818569 : Nat := 0
def PySem.W.Fast.tw1421134362974698308 : Nat := 0
def PySem.W.Fast.tw6027609614372407190 : Nat := 0
def PySem.W.Fast.tw4240599630904938689 : Nat := 0
def PySem.W.Fast.tw9230697260546508852 : Nat := 0
def PySem.W.Fast.tw15368406578512070555 : Nat := 0
def PySem.W.Fast.tw8966917732085429575 : Nat := 0
def PySem.W.Fast.tw11783596803959208474 : Nat := 0
def PySem.W.Fast.tw5363342033044260527 : Nat := 0
def PySem.W.Fast.tw13146926274392399448 : Nat := 0
def PySem.W.Fast.tw4057390578759068321 : Nat := 0
def PySem.W.Fast.tw11138198216149855922 : Nat := 0
def PySem.W.Fast.tw17475208329264770950 : Nat := 0
def PySem.W.Fast.tw15954440927115043005 : Nat := 0
def PySem.W.Fast.tw8132291282059674682 : Nat := 0
def PySem.W.Fast.tw11855064718101955598 : Nat := 0
def PySem.W.Fast.tw6852900087856265670 : Nat := 0
def PySem.W.Fast.tw4606879658036228218 : Nat := 0
def PySem.W.Fast.tw9963569023597396665 : Nat := 0
def PySem.W.Fast.tw13331273858361168097 : Nat := 0
def PySem.W.Fast.tw17686138827683138141 : Nat := 0
def PySem.W.Fast.tw1438176725297766089 : Nat := 0
def PySem.W.Fast.tw6668053376564734660 : Nat := 0
def PySem.W.Fast.tw10547664965326915631 : Nat := 0
def PySem.W.Fast.tw7385106242177399779 : Nat := 0
def PySem.W.Fast.tw4620397815573086781 : Nat := 0
def PySem.W.Fast.tw4886853803544355751 : Nat := 0
def PySem.W.Fast.tw7545213536462167683 : Nat := 0
def PySem.W.Fast.tw12418776144216681387 : Nat := 0
def PySem.W.Fast.tw10849535688821080662 : Nat := 0
def PySem.W.Fast.tw16000124918161118975 : Nat := 0
def PySem.W.Fast.tw1173001311239517910 : Nat := 0
def PySem.W.Fast.tw13702295848048911752 : Nat := 0
def PySem.W.Fast.tw11312168952156967341 : Nat := 0
def PySem.W.Fast.tw6907290610891106490 : Nat := 0
def PySem.W.Fast.tw13497633133053389314 : Nat := 0
def PySem.W.Fast.tw13835930604540323902 : Nat := 0
def PySem.W.Fast.tw9847773962571325251 : Nat := 0
def PySem.W.Fast.tw10807337932718861049 : Nat := 0
def PySem.W.Fast.tw6749963290168176562 : Nat := 0
def PySem.W.Fast.tw16422653930077827702 : Nat := 0
def PySem.W.Fast.tw11554087213941723669 : Nat := 0
def PySem.W.Fast.tw14750706916104557545 : Nat := 0
def PySem.W.Fast.tw12430247599374065054 : Nat := 0
def PySem.W.Fast.tw16692277532833038409 : Nat := 0
def PySem.W.Fast.tw8178119425674998693 : Nat := 0
def PySem.W.Fast.tw4003287669076479830 : Nat := 0
def PySem.W.Fast.tw9563218888638697659 : Nat := 0
def PySem.W.Fast.tw11593628639421613406 : Nat := 0
def PySem.W.Fast.tw13217300377580660652 : Nat := 0
def PySem.W.Fast.tw15840375656462167325 : Nat := 0
def PySem.W.Fast.tw64632184667361162 : Nat := 0
def PySem.W.Fast.tw7482157424003967786 : Nat := 0
def PySem.W.Fast.tw10273391204637851994 : Nat := 0
def PySem.W.Fast.tw2121328743581693578 : Nat := 0
def PySem.W.Fast.tw12661947709974935147 : Nat := 0
def PySem.W.Fast.tw461235829234202126 : Nat := 0
def PySem.W.Fast.tw13882757482325628861 : Nat := 0
def PySem.W.Fast.tw3677557045996608488 : Nat := 0
def PySem.W.Fast.tw14975795435418794194 : Nat := 0
def PySem.W.Fast.tw414544949549997275 : Nat := 0
def PySem.W.Fast.tw5700613382271686649 : Nat := 0
def PySem.W.Fast.tw14604885675771292465 : Nat := 0
def PySem.W.Fast.tw9251009160784392647 : Nat := 0
def PySem.W.Fast.tw7683771943624822151 : Nat := 0
def PySem.W.Fast.tw10496332332360646862 : Nat := 0
def PySem.W.Fast.tw6454862030373846102 : Nat := 0
def PySem.W.Fast.tw7535995305241342541 : Nat := 0
def PySem.W.Fast.tw14092709912212664616 : Nat := 0
def PySem.W.Fast.tw9218853037545754943 : Nat := 0
def PySem.W.Fast.tw16920683721422583790 : Nat := 0
def PySem.W.Fast.tw5108180902427960430 : Nat := 0
def PySem.W.Fast.tw2791150880107269238 : Nat := 0
def PySem.W.Fast.tw3832756401886160952 : Nat := 0
def PySem.W.Fast.tw9943323773633758502 : Nat := 0
def PySem.W.Fast.tw17061537425121505038 : Nat := 0
def PySem.W.Fast.tw16864885130716832864 : Nat := 0
def PySem.W.Fast.tw16350339434045679886 : Nat := 0
def PySem.W.Fast.tw6190122974327065070 : Nat := 0
def PySem.W.Fast.tw8982589617691091388 : Nat := 0
def PySem.W.Fast.tw8786190830009895462 : Nat := 0
def PySem.W.Fast.tw33883743699199521 : Nat := 0
def PySem.W.Fast.tw7349432959436066686 : Nat := 0
def PySem.W.Fast.tw1061660010190743157 : Nat := 0
def PySem.W.Fast.tw7054956754373101731 : Nat := 0
def PySem.W.Fast.tw1095679972884965833 : Nat := 0
def PySem.W.Fast.tw11415688472110185350 : Nat := 0
def PySem.W.Fast.tw3890702087712219971 : Nat := 0
def PySem.W.Fast.tw14154275882438899123 : Nat := 0
def PySem.W.Fast.tw3738289343284643098 : Nat := 0
def PySem.W.Fast.tw16725353845336404372 : Nat := 0
def PySem.W.Fast.tw16935431399290424539 : Nat := 0
def PySem.W.Fast.tw10410966353881227245 : Nat := 0
def PySem.W.Fast.tw16201066896725946550 : Nat := 0
def PySem.W.Fast.tw12150141938121550809 : Nat := 0
def PySem.W.Fast.tw14377812921504846081 : Nat := 0
def PySem.W.Fast.tw5709619806599081586 : Nat := 0
def PySem.W.Fast.tw2796420929130804229 : Nat := 0
def PySem.W.Fast.tw9238216954763729976 : Nat := 0
def PySem.W.Fast.tw12466575116615235172 : Nat := 0
def PySem.W.Fast.tw8196639110088275586 : Nat := 0
def PySem.W.Fast.tw17576117150819710609 : Nat := 0
def PySem.W.Fast.tw792905929413120780 : Nat := 0
def PySem.W.Fast.tw577692640714449831 : Nat := 0
def PySem.W.Fast.tw150335096579830234 : Nat := 0
def PySem.W.Fast.tw16525157531456646403 : Nat := 0
def PySem.W.Fast.tw9127170108771598257 : Nat := 0
def PySem.W.Fast.tw16637282490416898628 : Nat := 0
def PySem.W.Fast.tw5834801090262068239 : Nat := 0
def PySem.W.Fast.tw10340698262211429827 : Nat := 0
def PySem.W.Fast.tw10669000579126473294 : Nat := 0
def PySem.W.Fast.tw6075832812868786018 : Nat := 0
def PySem.W.Fast.tw12160477912658367189 : Nat := 0
def PySem.W.Fast.tw10202741646050347426 : Nat := 0
def PySem.W.Fast.tw6592284880127849008 : Nat := 0
def PySem.W.Fast.tw8554310170551096342 : Nat := 0
def PySem.W.Fast.tw13400715585196567261 : Nat := 0
def PySem.W.Fast.tw14449819771087823690 : Nat := 0
def PySem.W.Fast.tw6419735293978327852 : Nat := 0
def PySem.W.Fast.tw17547595217972122964 : Nat := 0
def PySem.W.Fast.tw1865900636745046023 : Nat := 0
def PySem.W.Fast.tw2997539273299268515 : Nat := 0
def PySem.W.Fast.tw9297275534054955278 : Nat := 0
def PySem.W.Fast.tw14268644198498314244 : Nat := 0
def PySem.W.Fast.tw11528732249496135081 : Nat := 0
def PySem.W.Fast.tw7345755330292927291 : Nat := 0
def PySem.W.Fast.tw5679077005016202316 : Nat := 0
def PySem.W.Fast.tw17090261009521532446 : Nat := 0
def PySem.W.Fast.tw13791770244993761227 : Nat := 0
def PySem.W.Fast.tw14001023328697089702 : Nat := 0
def PySem.W.Fast.tw18049656851625000872 : Nat := 0
def PySem.W.Fast.tw5776858134187401656 : Nat := 0
def PySem.W.Fast.tw542993519105881284 : Nat := 0
def PySem.W.Fast.tw10917873782616885703 : Nat := 0
def PySem.W.Fast.tw498884575990785667 : Nat := 0
def PySem.W.Fast.tw2343058153177564816 : Nat := 0
def PySem.W.Fast.tw16756390133830298935 : Nat := 0
def PySem.W.Fast.tw11849119132596614261 : Nat := 0
def PySem.W.Fast.tw2557537323183888591 : Nat := 0
def PySem.W.Fast.tw8878318029403179998 : Nat := 0
def PySem.W.Fast.tw9763203894159960497 : Nat := 0
def PySem.W.Fast.tw16907537786908559377 : Nat := 0
def PySem.W.Fast.tw6246483023311559658 : Nat := 0
def PySem.W.Fast.tw4340718305957860863 : Nat := 0
def PySem.W.Fast.tw7431731576647181577 : Nat := 0
def PySem.W.Fast.tw15261373377102135927 : Nat := 0
def PySem.W.Fast.tw1438715160026987167 : Nat := 0
def PySem.W.Fast.tw9950959113730543043 : Nat := 0
def PySem.W.Fast.tw5914027259982793461 : Nat := 0
def PySem.W.Fast.tw14624884193514075549 : Nat := 0
def PySem.W.Fast.tw8630857632507767120 : Nat := 0
def PySem.W.Fast.tw7858221638923043698 : Nat := 0
def PySem.W.Fast.tw16421228171279479533 : Nat := 0
def PySem.W.Fast.tw1651382668112492356 : Nat := 0
def PySem.W.Fast.tw2283968821668551219 : Nat := 0
def PySem.W.Fast.tw17901663105859417612 : Nat := 0
def PySem.W.Fast.tw9777103331249195273 : Nat := 0
def PySem.W.Fast.tw10918797936204644745 : Nat := 0
def PySem.W.Fast.tw10958825180248592217 : Nat := 0
def PySem.W.Fast.tw7978560940556250150 : Nat := 0
def PySem.W.Fast.tw4093194318900210480 : Nat := 0
def PySem.W.Fast.tw13032908332498352597 : Nat := 0
def PySem.W.Fast.tw3550587517137401373 : Nat := 0
def PySem.W.Fast.tw13295557262399973171 : Nat := 0
def PySem.W.Fast.tw2947589799697029112 : Nat := 0
def PySem.W.Fast.tw9071742942475546023 : Nat := 0
def PySem.W.Fast.tw6570492098680142571 : Nat := 0
def PySem.W.Fast.tw15270237943000929662 : Nat := 0
def PySem.W.Fast.tw280245654037174188 : Nat := 0
def PySem.W.Fast.tw12119345843619566160 : Nat := 0
def PySem.W.Fast.tw12719891563126529475 : Nat := 0
def PySem.W.Fast.tw4649284771829019228 : Nat := 0
def PySem.W.Fast.tw14823554114668105324 : Nat := 0
def PySem.W.Fast.tw5708971155357365658 : Nat := 0
def PySem.W.Fast.tw3305858270637094641 : Nat := 0
def PySem.W.Fast.tw18309788974435139334 : Nat := 0
def PySem.W.Fast.tw6456386011940215361 : Nat := 0
def PySem.W.Fast.tw12599997795424291129 : Nat := 0
def PySem.W.Fast.tw10665884459915227560 : Nat := 0
def PySem.W.Fast.tw16152753747662054038 : Nat := 0
def PySem.W.Fast.tw4046546153406848762 : Nat := 0
def PySem.W.Fast.tw15852428538336723395 : Nat := 0
def PySem.W.Fast.tw4050824910501883183 : Nat := 0
def PySem.W.Fast.tw7160791008562840217 : Nat := 0
def PySem.W.Fast.tw6758787595409728934 : Nat := 0
def PySem.W.Fast.tw3496365756925142615 : Nat := 0
def PySem.W.Fast.tw7508024738347826844 : Nat := 0
def PySem.W.Fast.tw12669861810216401359 : Nat := 0
def PySem.W.Fast.tw11383500800611862025 : Nat := 0
def PySem.W.Fast.tw16906552253164999207 : Nat := 0
def PySem.W.Fast.tw790206640170124077 : Nat := 0
def PySem.W.Fast.tw13875596127304201434 : Nat := 0
def PySem.W.Fast.tw15055912336616886023 : Nat := 0
def PySem.W.Fast.tw2500884340103405866 : Nat := 0
def PySem.W.Fast.tw8577127355832836671 : Nat := 0
def PySem.W.Fast.tw3628802973652576160 : Nat := 0
def PySem.W.Fast.tw16037869387997518911 : Nat := 0
def PySem.W.Fast.tw9330096258720701723 : Nat := 0
def PySem.W.Fast.tw16697683852766573129 : Nat := 0
def PySem.W.Fast.tw7710770342999738154 : Nat := 0
def PySem.W.Fast.tw14738545881935817365 : Nat := 0
def PySem.W.Fast.tw12926770791023347030 : Nat := 0
def PySem.W.Fast.tw17570825429959508290 : Nat := 0
def PySem.W.Fast.tw294355057856603549 : Nat := 0
def PySem.W.Fast.tw12733971606059378434 : Nat := 0
def PySem.W.Fast.tw10784906344719649046 : Nat := 0
def PySem.W.Fast.tw11454641837042690528 : Nat := 0
def PySem.W.Fast.tw15798021090615105974 : Nat := 0
def PySem.W.Fast.tw3964441632605227116 : Nat := 0
def PySem.W.Fast.tw17426212895432130600 : Nat := 0
def PySem.W.Fast.tw18064365718937467415 : Nat := 0
def PySem.W.Fast.tw15701395224219096567 : Nat := 0
def PySem.W.Fast.tw17048777284424515249 : Nat := 0
def PySem.W.Fast.tw16460505606827459574 : Nat := 0
def PySem.W.Fast.tw10307941011586546993 : Nat := 0
def PySem.W.Fast.tw709005026249170000 : Nat := 0
def PySem.W.Fast.tw12345066420572800934 : Nat := 0
def PySem.W.Fast.tw6830914431666195139 : Nat := 0
def PySem.W.Fast.tw12544985092065053423 : Nat := 0
def PySem.W.Fast.tw13589987872244771278 : Nat := 0
def PySem.W.Fast.tw3121699879951840162 : Nat := 0
def PySem.W.Fast.tw6611677060658810408 : Nat := 0
def PySem.W.Fast.tw11037433690652174622 : Nat := 0
def PySem.W.Fast.tw3904637428101005786 : Nat := 0
def PySem.W.Fast.tw11420711736721068553 : Nat := 0
def PySem.W.Fast.tw13659145223760244512 : Nat := 0
def PySem.W.Fast.tw1827396913626464772 : Nat := 0
def PySem.W.Fast.tw16399380777077379011 : Nat := 0
def PySem.W.Fast.tw3113549402592030505 : Nat := 0
def PySem.W.Fast.tw181794516200153921 : Nat := 0
def PySem.W.Fast.tw12135214476534718767 : Nat := 0
def PySem.W.Fast.tw15480948629704602314 : Nat := 0
def PySem.W.Fast.tw11615322097140890007 : Nat := 0
def PySem.W.Fast.tw13405952297063128115 : Nat := 0
def PySem.W.Fast.tw1693898017374922912 : Nat := 0
def PySem.W.Fast.tw11892384553788927774 : Nat := 0
def PySem.W.Fast.tw10214811690815768754 : Nat := 0
def PySem.W.Fast.tw3236117059027061435 : Nat := 0
def PySem.W.Fast.tw5008159609164874877 : Nat := 0
def PySem.W.Fast.tw5375345200823097670 : Nat := 0
def PySem.W.Fast.tw16244972494777328056 : Nat := 0
def PySem.W.Fast.tw567518721343485748 : Nat := 0
def PySem.W.Fast.tw18075395816205882513 : Nat := 0
def PySem.W.Fast.tw9598661440475475858 : Nat := 0
def PySem.W.Fast.tw1083451443709162048 : Nat := 0
def PySem.W.Fast.tw1959802883228510606 : Nat := 0
def PySem.W.Fast.tw6343397337377147682 : Nat := 0
def PySem.W.Fast.tw2953966727601529853 : Nat := 0
def PySem.W.Fast.tw3316010769254327537 : Nat := 0
def PySem.W.Fast.tw7871910438468059087 : Nat := 0
def PySem.W.Fast.tw13692326426721156271 : Nat := 0
def PySem.W.Fast.tw16106515490908601370 : Nat := 0
def PySem.W.Fast.tw4563613948955011721 : Nat := 0
def PySem.W.Fast.tw2729302652372791304 : Nat := 0
def PySem.W.Fast.tw5070237952491907106 : Nat := 0
def PySem.W.Fast.tw9224934343089490479 : Nat := 0
def PySem.W.Fast.tw12736043549453539834 : Nat := 0
def PySem.W.Fast.tw17031423018633509184 : Nat := 0
def PySem.W.Fast.tw10029414349732509265 : Nat := 0
def PySem.W.Fast.tw15185397631326503823 : Nat := 0
def PySem.W.Fast.tw12249901404038571705 : Nat := 0
def PySem.W.Fast.tw8935830799139074131 : Nat := 0
def PySem.W.Fast.tw15635220690556234403 : Nat := 0
def PySem.W.Fast.tw744734579275401853 : Nat := 0
def PySem.W.Fast.tw13974868624862822345 : Nat := 0
def PySem.W.Fast.tw11248397749712406164 : Nat := 0
def PySem.W.Fast.tw15496988207501817807 : Nat := 0
def PySem.W.Fast.tw1489143840628526601 : Nat := 0
def PySem.W.Fast.tw9276185540445247182 : Nat := 0
def PySem.W.Fast.tw14436808766001747657 : Nat := 0
def PySem.W.Fast.tw4541985651308962854 : Nat := 0
def PySem.W.Fast.tw12105491074722389744 : Nat := 0
def PySem.W.Fast.tw793814885552521604 : Nat := 0
def PySem.W.Fast.tw17687668931318630309 : Nat := 0
def PySem.W.Fast.tw5699366271375184589 : Nat := 0
def PySem.W.Fast.tw2297105890670533471 : Nat := 0
def PySem.W.Fast.tw4620287395244990947 : Nat := 0
def PySem.W.Fast.tw6025840401105495612 : Nat := 0
def PySem.W.Fast.tw2556843990686614200 : Nat := 0
def PySem.W.Fast.tw1186023901573791008 : Nat := 0
def PySem.W.Fast.tw17638489583777136655 : Nat := 0
def PySem.W.Fast.tw4614051954800866434 : Nat := 0
def PySem.W.Fast.tw852878844794825122 : Nat := 0
def PySem.W.Fast.tw9684089256009953097 : Nat := 0
def PySem.W.Fast.tw2526090535576773660 : Nat := 0
def PySem.W.Fast.tw17976478201868410314 : Nat := 0
def PySem.W.Fast.tw9879577328610926900 : Nat := 0
def PySem.W.Fast.tw16471512300659952004 : Nat := 0
def PySem.W.Fast.tw11616489614823944414 : Nat := 0
def PySem.W.Fast.tw7616702527668964853 : Nat := 0
def PySem.W.Fast.tw14622416971578349338 : Nat := 0
def PySem.W.Fast.tw7907290030624965976 : Nat := 0
def PySem.W.Fast.tw10658699001087643721 : Nat := 0
def PySem.W.Fast.tw12236165020619262067 : Nat := 0
def PySem.W.Fast.tw9873568187167911723 : Nat := 0
def PySem.W.Fast.tw1040903682826009160 : Nat := 0
def PySem.W.Fast.tw13325270535803958407 : Nat := 0
def PySem.W.Fast.tw6364485404113987277 : Nat := 0
def PySem.W.Fast.tw5354060418439800841 : Nat := 0
def PySem.W.Fast.tw18281828462322505865 : Nat := 0
def PySem.W.Fast.tw2035698813797432834 : Nat := 0
def PySem.W.Fast.tw8812643691641369179 : Nat := 0
def PySem.W.Fast.tw18063581891637122220 : Nat := 0
def PySem.W.Fast.tw8431791617926697050 : Nat := 0
def PySem.W.Fast.tw16695390761680459524 : Nat := 0
def PySem.W.Fast.tw8137203351896311431 : Nat := 0
def PySem.W.Fast.tw1515026038460825017 : Nat := 0
def PySem.W.Fast.tw2706335569809449739 : Nat := 0
def PySem.W.Fast.tw6877168621188098996 : Nat := 0
def PySem.W.Fast.tw15493129443985827965 : Nat := 0
def PySem.W.Fast.tw11681666685257249920 : Nat := 0
def PySem.W.Fast.tw12170082787792588458 : Nat := 0
def PySem.W.Fast.tw7402478978306285544 : Nat := 0
def PySem.W.Fast.tw13884679399579893220 : Nat := 0
def PySem.W.Fast.tw17931556649760231987 : Nat := 0
def PySem.W.Fast.tw10479613917028405052 : Nat := 0
def PySem.W.Fast.tw17049122830369017269 : Nat := 0
def PySem.W.Fast.tw6950660651830305352 : Nat := 0
def PySem.W.Fast.tw7636624115516512622 : Nat := 0
def PySem.W.Fast.tw1705030197785060340 : Nat := 0
def PySem.W.Fast.tw9266974152929267976 : Nat := 0
def PySem.W.Fast.tw3163768122544124783 : Nat := 0
def PySem.W.Fast.tw11383852534432411547 : Nat := 0
def PySem.W.Fast.tw9256609032856422291 : Nat := 0
def PySem.W.Fast.tw14950204991221909580 : Nat := 0
def PySem.W.Fast.tw11557040034994615775 : Nat := 0
def PySem.W.Fast.tw9104497578649096334 : Nat := 0
def PySem.W.Fast.tw11976144843728825167 : Nat := 0
def PySem.W.Fast.tw10461139650544531497 : Nat := 0
def PySem.W.Fast.tw8229979206394775101 : Nat := 0
def PySem.W.Fast.tw3592871571162292544 : Nat := 0
def PySem.W.Fast.tw15116802781051002431 : Nat := 0
def PySem.W.Fast.tw3278903749455195012 : Nat := 0
def PySem.W.Fast.tw6913921442813229079 : Nat := 0
def PySem.W.Fast.tw14146025232089059770 : Nat := 0
def PySem.W.Fast.tw16961320849081520637 : Nat := 0
def PySem.W.Fast.tw17031560314132128249 : Nat := 0
def PySem.W.Fast.tw2829837667627613829 : Nat := 0
def PySem.W.Fast.tw5504471155842950631 : Nat := 0
def PySem.W.Fast.tw286568984929481776 : Nat := 0
def PySem.W.Fast.tw2563164540532259031 : Nat := 0
def PySem.W.Fast.tw16768537247606896503 : Nat := 0
def PySem.W.Fast.tw10150153896647089903 : Nat := 0
def PySem.W.Fast.tw7065170769000788453 : Nat := 0
def PySem.W.Fast.tw2966507597060175616 : Nat := 0
def PySem.W.Fast.tw3956260014520017240 : Nat := 0
def PySem.W.Fast.tw1694691376068426927 : Nat := 0
def PySem.W.Fast.tw1224970666627163602 : Nat := 0
def PySem.W.Fast.tw12284981973632897020 : Nat := 0
def PySem.W.Fast.tw10354504832290921158 : Nat := 0
def PySem.W.Fast.tw3822416567017704551 : Nat := 0
def PySem.W.Fast.tw510578239345721804 : Nat := 0
def PySem.W.Fast.tw3379305033390397709 : Nat := 0
def PySem.W.Fast.tw11470435005961715885 : Nat := 0
def PySem.W.Fast.tw9784928506427659900 : Nat := 0
def PySem.W.Fast.tw12215146867525162983 : Nat := 0
def PySem.W.Fast.tw15664270515444852004 : Nat := 0
def PySem.W.Fast.tw11709338572322828099 : Nat := 0
def PySem.W.Fast.tw8691162009309203795 : Nat := 0
def PySem.W.Fast.tw11059935601932869009 : Nat := 0
def PySem.W.Fast.tw11771082555656455066 : Nat := 0
def PySem.W.Fast.tw14119234013164548849 : Nat := 0
def PySem.W.Fast.tw3467628393803480812 : Nat := 0
def PySem.W.Fast.tw449681963448405593 : Nat := 0
def PySem.W.Fast.tw16834435401405851823 : Nat := 0
def PySem.W.Fast.tw17937612839114399449 : Nat := 0
def PySem.W.Fast.tw7572663466459501519 : Nat := 0
def PySem.W.Fast.tw13057639510243415695 : Nat := 0
def PySem.W.Fast.tw17504369234514291340 : Nat := 0
def PySem.W.Fast.tw14381941536218248554 : Nat := 0
def PySem.W.Fast.tw8814963515796738807 : Nat := 0
def PySem.W.Fast.tw16076910931573195952 : Nat := 0
def PySem.W.Fast.tw7062454348320772188 : Nat := 0
def PySem.W.Fast.tw3220125535753635584 : Nat := 0
def PySem.W.Fast.tw4256679717295043909 : Nat := 0
def PySem.W.Fast.tw4601806657993131496 : Nat := 0
def PySem.W.Fast.tw7790806962632295974 : Nat := 0
def PySem.W.Fast.tw6673393056066275256 : Nat := 0
def PySem.W.Fast.tw4268033082695421609 : Nat := 0
def PySem.W.Fast.tw16859134073470548187 : Nat := 0
def PySem.W.Fast.tw16082206404174424616 : Nat := 0
def PySem.W.Fast.tw14244972718344220053 : Nat := 0
def PySem.W.Fast.tw18210591631499157856 : Nat := 0
def PySem.W.Fast.tw7058155595477193246 : Nat := 0
open PySem PySem.W PyProof.Rows
set_option maxRecDepth 100000 in
set_option maxHeartbeats 0 in
theorem PySem.Challenge.cw_holebook_k22_whole_turns_and_papers_holds : PySem.Challenge.rw_holebook_k22_whole_turns_and_papers.Holds := by
  w_on; o_law; k_head; (case hw => w_witness2)
  k_fill
  refine Hb.walk (l := PySem.Challenge.rw_holebook_k22_whole_turns_and_papers) rfl rfl (fun w h Y => PySem.W.kIn_of Y) ?F
  case F =>
    intro w mg fa h KX G hmg
    refine' Hb.all_mk KX G hmg ?ac_NoTurn ?ac_Lines ?ac_Turner ?a_is_whole ?l_is_whole ?c_is_whole ?k_is_whole ?a_column ?l_column ?c_column ?k_column ?a_one_row ?l_one_row ?c_one_row ?k_one_row ?a_mixed ?l_mixed ?c_mixed ?k_mixed ?a_copied ?l_copied ?c_copied ?k_copied ?a_across ?l_across ?c_across ?k_across ?a_Lines__init_ ?if_Lines__init_ ?l_Lines__init_ ?c_Lines__init_ ?k_Lines__init_ ?a_back_of ?l_back_of ?c_back_of ?k_back_of ?a_Turner_many ?if_Turner_many ?l_Turner_many ?c_Turner_many ?k_Turner_many ?a_L_whole ?l_L_whole ?c_L_whole ?k_L_whole ?a_L_cell_at ?l_L_cell_at ?c_L_cell_at ?k_L_cell_at ?a_L_spread ?l_L_spread ?c_L_spread ?k_L_spread ?a_L_number_by ?l_L_number_by ?c_L_number_by ?k_L_number_by ?a_L_copy ?l_L_copy ?c_L_copy ?k_L_copy ?a_L_product_by ?l_L_product_by ?c_L_product_by ?k_L_product_by ?a_L_one_by ?l_L_one_by ?c_L_one_by ?k_L_one_by ?a_L_turn_by ?l_L_turn_by ?c_L_turn_by ?k_L_turn_by ?a_L_flip ?l_L_flip ?c_L_flip ?k_L_flip ?a_is_whole_below ?l_is_whole_below ?c_is_whole_below ?k_is_whole_below ?a_is_list_of_wholes ?l_is_list_of_wholes ?c_is_list_of_wholes ?k_is_list_of_wholes ?a_flipped ?l_flipped ?c_flipped ?k_flipped ?a_ones ?l_ones ?c_ones ?k_ones ?a_turned ?l_turned ?c_turned ?k_turned ?a_Turner_now ?if_Turner_now ?l_Turner_now ?c_Turner_now ?k_Turner_now ?a_L_table_by ?l_L_table_by ?c_L_table_by ?k_L_table_by ?a_L_is_table ?l_L_is_table ?c_L_is_table ?k_L_is_table ?a_L_rows_turned ?l_L_rows_turned ?c_L_rows_turned ?k_L_rows_turned ?a_is_table ?l_is_table ?c_is_table ?k_is_table ?a_Lines_turn ?if_Lines_turn ?l_Lines_turn ?c_Lines_turn ?k_Lines_turn ?a_are_two_lines ?l_are_two_lines ?c_are_two_lines ?k_are_two_lines ?a_Turner_papers ?if_Turner_papers ?l_Turner_papers ?c_Turner_papers ?k_Turner_papers ?a_L_turned ?l_L_turned ?c_L_turned ?k_L_turned ?a_L_now_is ?l_L_now_is ?c_L_now_is ?k_L_now_is ?a_L_undo ?l_L_undo ?c_L_undo ?k_L_undo ?a_is_turn ?l_is_turn ?c_is_turn ?k_is_turn ?a_Turner__init_ ?if_Turner__init_ ?l_Turner__init_ ?c_Turner__init_ ?k_Turner__init_ ?a_Turner_do_rows ?if_Turner_do_rows ?l_Turner_do_rows ?c_Turner_do_rows ?k_Turner_do_rows ?a_Turner_do_columns ?if_Turner_do_columns ?l_Turner_do_columns ?c_Turner_do_columns ?k_Turner_do_columns ?a_L_papers_hold ?l_L_papers_hold ?c_L_papers_hold ?k_L_papers_hold ?a_check_turn ?l_check_turn ?c_check_turn ?k_check_turn ?a_Turner_take_back ?if_Turner_take_back ?l_Turner_take_back ?c_Turner_take_back ?k_Turner_take_back ?a_Turner_turn_rows ?if_Turner_turn_rows ?l_Turner_turn_rows ?c_Turner_turn_rows ?k_Turner_turn_rows ?a_Turner_turn_columns ?if_Turner_turn_columns ?l_Turner_turn_columns ?c_Turner_turn_columns ?k_Turner_turn_columns ?a_L_back ?l_L_back ?c_L_back ?k_L_back ?a_L_do ?l_L_do ?c_L_do ?k_L_do ?a_law ?l_law ?c_law ?k_law ?mk_Lines ?kc_Lines ?mk_Turner ?kc_Turner ?ae_NoTurn ?ak_NoTurn ?as_NoTurn_NoTurn ?pg_Lines ?hd_Lines ?po_Lines ?sa_Lines ?na_Lines_rows ?na_Lines_backs ?pg_Turner ?hd_Turner ?po_Turner ?sa_Turner ?na_Turner_table ?na_Turner_width ?na_Turner_left ?na_Turner_right ?na_Turner_done ?aq_MOST_ROWS ?z_isinstance ?z_int ?z_bool ?z_all ?z_list ?z_len ?z_range ?z_zip ?z_tuple ?z_str ?z_max
    (case ac_NoTurn => k_is); (case ac_Lines => k_is); (case ac_Turner => k_is); (case a_is_whole => k_is)
    (case l_is_whole => k_is); (case c_is_whole => k_is); (case k_is_whole => k_is); (case a_column => k_is)
    (case l_column => k_is); (case c_column => k_is); (case k_column => k_is); (case a_one_row => k_is)
    (case l_one_row => k_is); (case c_one_row => k_is); (case k_one_row => k_is); (case a_mixed => k_is)
    (case l_mixed => k_is); (case c_mixed => k_is); (case k_mixed => k_is); (case a_copied => k_is)
    (case l_copied => k_is); (case c_copied => k_is); (case k_copied => k_is); (case a_across => k_is)
    (case l_across => k_is); (case c_across => k_is); (case k_across => k_is); (case a_Lines__init_ => k_is)
    (case if_Lines__init_ => k_is); (case l_Lines__init_ => k_is); (case c_Lines__init_ => k_is); (case k_Lines__init_ => k_is)
    (case a_back_of => k_is); (case l_back_of => k_is); (case c_back_of => k_is); (case k_back_of => k_is)
    (case a_Turner_many => k_is); (case if_Turner_many => k_is); (case l_Turner_many => k_is); (case c_Turner_many => k_is)
    (case k_Turner_many => k_is); (case a_L_whole => k_is); (case l_L_whole => k_is); (case c_L_whole => k_is)
    (case k_L_whole => k_is); (case a_L_cell_at => k_is); (case l_L_cell_at => k_is); (case c_L_cell_at => k_is)
    (case k_L_cell_at => k_is); (case a_L_spread => k_is); (case l_L_spread => k_is); (case c_L_spread => k_is)
    (case k_L_spread => k_is); (case a_L_number_by => k_is); (case l_L_number_by => k_is); (case c_L_number_by => k_is)
    (case k_L_number_by => k_is); (case a_L_copy => k_is); (case l_L_copy => k_is); (case c_L_copy => k_is)
    (case k_L_copy => k_is); (case a_L_product_by => k_is); (case l_L_product_by => k_is); (case c_L_product_by => k_is)
    (case k_L_product_by => k_is); (case a_L_one_by => k_is); (case l_L_one_by => k_is); (case c_L_one_by => k_is)
    (case k_L_one_by => k_is); (case a_L_turn_by => k_is); (case l_L_turn_by => k_is); (case c_L_turn_by => k_is)
    (case k_L_turn_by => k_is); (case a_L_flip => k_is); (case l_L_flip => k_is); (case c_L_flip => k_is)
    (case k_L_flip => k_is); (case a_is_whole_below => k_is); (case l_is_whole_below => k_is); (case c_is_whole_below => k_is)
    (case k_is_whole_below => k_is); (case a_is_list_of_wholes => k_is); (case l_is_list_of_wholes => k_is); (case c_is_list_of_wholes => k_is)
    (case k_is_list_of_wholes => k_is); (case a_flipped => k_is); (case l_flipped => k_is); (case c_flipped => k_is)
    (case k_flipped => k_is); (case a_ones => k_is); (case l_ones => k_is); (case c_ones => k_is)
    (case k_ones => k_is); (case a_turned => k_is); (case l_turned => k_is); (case c_turned => k_is)
    (case k_turned => k_is); (case a_Turner_now => k_is); (case if_Turner_now => k_is); (case l_Turner_now => k_is)
    (case c_Turner_now => k_is); (case k_Turner_now => k_is); (case a_L_table_by => k_is); (case l_L_table_by => k_is)
    (case c_L_table_by => k_is); (case k_L_table_by => k_is); (case a_L_is_table => k_is); (case l_L_is_table => k_is)
    (case c_L_is_table => k_is); (case k_L_is_table => k_is); (case a_L_rows_turned => k_is); (case l_L_rows_turned => k_is)
    (case c_L_rows_turned => k_is); (case k_L_rows_turned => k_is); (case a_is_table => k_is); (case l_is_table => k_is)
    (case c_is_table => k_is); (case k_is_table => k_is); (case a_Lines_turn => k_is); (case if_Lines_turn => k_is)
    (case l_Lines_turn => k_is); (case c_Lines_turn => k_is); (case k_Lines_turn => k_is); (case a_are_two_lines => k_is)
    (case l_are_two_lines => k_is); (case c_are_two_lines => k_is); (case k_are_two_lines => k_is); (case a_Turner_papers => k_is)
    (case if_Turner_papers => k_is); (case l_Turner_papers => k_is); (case c_Turner_papers => k_is); (case k_Turner_papers => k_is)
    (case a_L_turned => k_is); (case l_L_turned => k_is); (case c_L_turned => k_is); (case k_L_turned => k_is)
    (case a_L_now_is => k_is); (case l_L_now_is => k_is); (case c_L_now_is => k_is); (case k_L_now_is => k_is)
    (case a_L_undo => k_is); (case l_L_undo => k_is); (case c_L_undo => k_is); (case k_L_undo => k_is)
    (case a_is_turn => k_is); (case l_is_turn => k_is); (case c_is_turn => k_is); (case k_is_turn => k_is)
    (case a_Turner__init_ => k_is); (case if_Turner__init_ => k_is); (case l_Turner__init_ => k_is); (case c_Turner__init_ => k_is)
    (case k_Turner__init_ => k_is); (case a_Turner_do_rows => k_is); (case if_Turner_do_rows => k_is); (case l_Turner_do_rows => k_is)
    (case c_Turner_do_rows => k_is); (case k_Turner_do_rows => k_is); (case a_Turner_do_columns => k_is); (case if_Turner_do_columns => k_is)
    (case l_Turner_do_columns => k_is); (case c_Turner_do_columns => k_is); (case k_Turner_do_columns => k_is); (case a_L_papers_hold => k_is)
    (case l_L_papers_hold => k_is); (case c_L_papers_hold => k_is); (case k_L_papers_hold => k_is); (case a_check_turn => k_is)
    (case l_check_turn => k_is); (case c_check_turn => k_is); (case k_check_turn => k_is); (case a_Turner_take_back => k_is)
    (case if_Turner_take_back => k_is); (case l_Turner_take_back => k_is); (case c_Turner_take_back => k_is); (case k_Turner_take_back => k_is)
    (case a_Turner_turn_rows => k_is); (case if_Turner_turn_rows => k_is); (case l_Turner_turn_rows => k_is); (case c_Turner_turn_rows => k_is)
    (case k_Turner_turn_rows => k_is); (case a_Turner_turn_columns => k_is); (case if_Turner_turn_columns => k_is); (case l_Turner_turn_columns => k_is)
    (case c_Turner_turn_columns => k_is); (case k_Turner_turn_columns => k_is); (case a_L_back => k_is); (case l_L_back => k_is)
    (case c_L_back => k_is); (case k_L_back => k_is); (case a_L_do => k_is); (case l_L_do => k_is)
    (case c_L_do => k_is); (case k_L_do => k_is); (case a_law => k_is); (case l_law => k_is)
    (case c_law => k_is); (case k_law => k_is); (case mk_Lines => k_is); (case kc_Lines => k_is)
    (case mk_Turner => k_is); (case kc_Turner => k_is); (case ae_NoTurn => k_exc); (case ak_NoTurn => kts_isx)
    (case as_NoTurn_NoTurn => k_is); (case pg_Lines => k_is); (case hd_Lines => k_is); (case po_Lines => k_is)
    (case sa_Lines => k_is); (case na_Lines_rows => k_is); (case na_Lines_backs => k_is); (case pg_Turner => k_is)
    (case hd_Turner => k_is); (case po_Turner => k_is); (case sa_Turner => k_is); (case na_Turner_table => k_is)
    (case na_Turner_width => k_is); (case na_Turner_left => k_is); (case na_Turner_right => k_is); (case na_Turner_done => k_is)
    (case aq_MOST_ROWS => k_is); (case z_isinstance => k_is); (case z_int => k_is); (case z_bool => k_is)
    (case z_all => k_is); (case z_list => k_is); (case z_len => k_is); (case z_range => k_is)
    (case z_zip => k_is); (case z_tuple => k_is); (case z_str => k_is); (case z_max => k_is)
