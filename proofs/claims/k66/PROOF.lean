import PyProof.Rows.All
import Wide.All
import OpenK.AllK
import Wide.FinOn
import Lean
import PyProof.EqAt
import PyProof.EqKinds
import PyProof.TupleCall
import PySem.Challenge.RW_holebook_k66_a_diagonal_looked_at
set_option Elab.async false
set_option linter.all false
set_option maxRecDepth 100000

namespace L2
open PySem PySem.Spec PyProof.Rows


abbrev Key := Sum Int Str
def keyIs : Key → Value → Bool
  | .inl k, v => Value.isInt k v
  | .inr x, v => Value.isStrOf x v
def keyH (w : World) : Key → Int
  | .inl k => hashInt k
  | .inr x => hashStr w x
theorem keyIs_shape : ∀ {k : Key} {v : Value}, keyIs k v = true → (∃ i t, k = Sum.inl i ∧ v = Value.int i t) ∨ (∃ x t, k = Sum.inr x ∧ v = Value.str x t)
  | .inl i, v, h => by
    obtain ⟨t, e⟩ := Value.isInt_shape (k := i) (v := v) h
    exact .inl ⟨i, t, rfl, e⟩
  | .inr x, v, h => by
    obtain ⟨t, e⟩ := Value.isStrOf_shape (x := x) (v := v) h
    exact .inr ⟨x, t, rfl, e⟩
theorem key_ll (a b : Int) : decide ((Sum.inl a : Key) = Sum.inl b) = (a == b) := by
  by_cases e : a = b
  · subst e; simp
  · have h : ¬ (Sum.inl a : Key) = Sum.inl b := fun q => e (Sum.inl.inj q)
    rw [decide_eq_false h]
    exact (beq_eq_false_iff_ne.mpr e).symm
theorem key_rr (a b : Str) : decide ((Sum.inr a : Key) = Sum.inr b) = decide (a = b) := by
  by_cases e : a = b
  · subst e; simp
  · have h : ¬ (Sum.inr a : Key) = Sum.inr b := fun q => e (Sum.inr.inj q)
    rw [decide_eq_false h, decide_eq_false e]
theorem key_lr (a : Int) (b : Str) : decide ((Sum.inl a : Key) = Sum.inr b) = false := decide_eq_false (fun q => nomatch q)
theorem key_rl (a : Str) (b : Int) : decide ((Sum.inr a : Key) = Sum.inl b) = false := decide_eq_false (fun q => nomatch q)

def mixKind (prog : Program) (w : World) : PySem.KeyKind prog w Key where
  is := keyIs
  hash := keyH w
  inj := fun v a b ha hb => by
    rcases keyIs_shape ha with ⟨i, t, rfl, rfl⟩ | ⟨x, t, rfl, rfl⟩
    · rcases keyIs_shape hb with ⟨j, u, rfl, e⟩ | ⟨y, u, rfl, e⟩
      · injection e with e1 _; rw [e1]
      · exact nomatch e
    · rcases keyIs_shape hb with ⟨j, u, rfl, e⟩ | ⟨y, u, rfl, e⟩
      · exact nomatch e
      · injection e with e1 _; rw [e1]
  byValue := fun k v h => by
    rcases keyIs_shape h with ⟨i, t, rfl, rfl⟩ | ⟨x, t, rfl, rfl⟩ <;> rfl
  pyHash := fun hv h => by
    rcases keyIs_shape hv with ⟨i, t, rfl, rfl⟩ | ⟨x, t, rfl, rfl⟩
    · exact wpAny_pyHash_int h
    · exact wpAny_pyHash_str h
  eqBool := fun hu hv h => by
    rcases keyIs_shape hu with ⟨i, t, rfl, rfl⟩ | ⟨x, t, rfl, rfl⟩
    · rcases keyIs_shape hv with ⟨j, u, rfl, rfl⟩ | ⟨y, u, rfl, rfl⟩
      · rw [key_ll] at h; exact wpAny_eqBool_int h
      · rw [key_lr] at h; exact SeqAt.EqAt.int_str i t y u _ _ _ _ h
    · rcases keyIs_shape hv with ⟨j, u, rfl, rfl⟩ | ⟨y, u, rfl, rfl⟩
      · rw [key_rl] at h; exact SeqAt.EqAt.str_int x t j u _ _ _ _ h
      · rw [key_rr] at h; exact wpAny_eqBool_str h
  «strs» := fun k x t v h => by
    rcases keyIs_shape h with ⟨i, u, rfl, e⟩ | ⟨y, u, rfl, e⟩
    · exact nomatch e
    · injection e with e1 _
      subst e1
      cases v <;> rfl

end L2

namespace L2
open PySem PySem.Spec PyProof.Rows


inductive V where
  | non | bl (b : Bool) | int (i : Int) | str (x : Str) | byt (b : Array UInt8) | flt (b : UInt64) | ref (a : Addr) | ty (n : String)
  deriving DecidableEq

def RelV : V → Value → Prop
  | .non, u => u = Value.none
  | .bl b, u => u = Value.bool b
  | .int i, u => ∃ t, u = Value.int i t
  | .str x, u => ∃ t, u = Value.str x t
  | .byt b, u => ∃ t, u = Value.bytes b t
  | .flt b, u => ∃ t, u = Value.float b t
  | .ref a, u => u = Value.ref a
  | .ty n, u => u = Value.type n

abbrev Vals : List V → List Value → Prop := Paired RelV
theorem Vals.length {xs : List V} {us : List Value} (r : Vals xs us) : xs.length = us.length := Paired.length r
theorem Vals.get : ∀ {xs : List V} {us : List Value} {i : Nat} {x : V}, Vals xs us → xs[i]? = some x → ∃ u, us[i]? = some u ∧ RelV x u
  | _, _, _, _, .nil, e => by simp at e
  | _, _, 0, _, .cons r _, e => by simp at e; subst e; exact ⟨_, rfl, r⟩
  | _, _, i + 1, x, .cons _ t, e => by
    obtain ⟨u, h1, h2⟩ := Vals.get (i := i) (x := x) t (by simpa using e)
    exact ⟨u, by simpa using h1, h2⟩
theorem Vals.set {x : V} {u : Value} (r : RelV x u) : ∀ {xs : List V} {us : List Value} (i : Nat), Vals xs us → Vals (xs.set i x) (us.set i u)
  | _, _, _, .nil => .nil
  | _, _, 0, .cons _ t => .cons r t
  | _, _, i + 1, .cons q t => .cons q (Vals.set r i t)
theorem Vals.append : ∀ {xs ys : List V} {us ws : List Value}, Vals xs us → Vals ys ws → Vals (xs ++ ys) (us ++ ws)
  | _, _, _, _, .nil, s => s
  | _, _, _, _, .cons r t, s => .cons r (Vals.append t s)
theorem Vals.take : ∀ {xs : List V} {us : List Value} (n : Nat), Vals xs us → Vals (xs.take n) (us.take n)
  | _, _, 0, _ => .nil
  | _, _, _ + 1, .nil => .nil
  | _, _, n + 1, .cons r t => .cons r (Vals.take n t)
theorem Vals.drop : ∀ {xs : List V} {us : List Value} (n : Nat), Vals xs us → Vals (xs.drop n) (us.drop n)
  | _, _, 0, r => r
  | _, _, _ + 1, .nil => .nil
  | _, _, n + 1, .cons _ t => Vals.drop n t
def RelO : Option V → Option Value → Prop
  | some v, some u => RelV v u
  | none, none => True
  | _, _ => False
def KV {κ : Type} : List (κ × V) → List (κ × Value) → Prop := Paired fun (p : κ × V) (q : κ × Value) => p.1 = q.1 ∧ RelV p.2 q.2


def kV : Key → V
  | .inl i => .int i
  | .inr x => .str x


inductive HO where
  
  | lst (xs : List V)
  
  | tup (xs : List V)
  
  | dK (kvs : List (Key × V)) | dT (kvs : List (List Key × V))
  
  | set (S : Int → Bool) (n : Nat)
  
  | ins (C dx : Addr) (fs : List (Str × V))
  
  | own (x : Addr)
  
  | xd (fs : List (Str × V))
  
  | met (f x : Addr)
  
  | rng (lo hi : Int)
  
  | frz (o : Obj) (u : HO)
  
  | tbl (ps : Array Value)
  
  | ext (φ : Heap → Prop)

abbrev Hp := Addr → Option HO
def upd (H : Hp) (a : Addr) (o : HO) : Hp := fun b => if b = a then some o else H b
theorem upd_same {H : Hp} {a : Addr} {o : HO} : upd H a o a = some o := by unfold upd; rw [if_pos rfl]
theorem upd_ne {H : Hp} {a b : Addr} {o : HO} (h : b ≠ a) : upd H a o b = H b := by unfold upd; rw [if_neg h]
theorem ne_of {H : Hp} {a b : Addr} {o u : HO} (h : H a = some o) (h' : H b = some u) (d : o ≠ u) : a ≠ b := by
  intro e; subst e; rw [h] at h'; exact d (Option.some.inj h')
theorem ne_of_none {H : Hp} {a b : Addr} {o : HO} (h : H a = some o) (h' : H b = none) : a ≠ b := by
  intro e; subst e; rw [h] at h'; cases h'


def IsTupN (h : Heap) (a : Addr) (items : Array Value) : Prop := ∃ o, h.get? a = some o ∧ o.cls = .type "tuple" ∧ o.dict = none ∧ ∃ n, o.data = .seq items n
theorem IsTupN.tup {h : Heap} {a : Addr} {items : Array Value} (x : IsTupN h a items) : IsTup h a items := let ⟨o, e, c, _, d⟩ := x; ⟨o, e, c, d⟩
theorem IsTupN.lt {h : Heap} {a : Addr} {items : Array Value} (x : IsTupN h a items) : a < h.objs.size := x.tup.lt
theorem IsTupN.keep {h h' : Heap} {a : Addr} {items : Array Value} (x : IsTupN h a items) (k : ∀ o, h.get? a = some o → h'.get? a = some o) : IsTupN h' a items := let ⟨o, e, r⟩ := x; ⟨o, k o e, r⟩
theorem IsTupN.new (h : Heap) (items : Array Value) : IsTupN (h.push { cls := .type "tuple", data := .seq items }) h.objs.size items := ⟨_, Heap.get?_push_size _ rfl, rfl, rfl, _, rfl⟩
section
variable (P : Program) (w : World)
def ObjOk (H : Hp) (h : Heap) (a : Addr) : HO → Prop
  | .lst xs => xs.length ≤ sizeLine ∧ ∃ (its : List Value) (n : Nat), Vals xs its ∧ h.get? a = some { cls := .type "list", data := .seq its.toArray n }
  | .tup xs => xs.length ≤ sizeLine ∧ ∃ its : List Value, Vals xs its ∧ IsTupN h a its.toArray
  | .dK kvs => kvs.length ≤ sizeLine ∧ (a == sysModules) = false ∧ ∃ vs, KV kvs vs ∧ h.DictOf (mixKind P w) a vs
  | .dT kvs => kvs.length ≤ sizeLine ∧ (a == sysModules) = false ∧ ∃ xs : List (List Key × Addr × Value),
      Paired (fun (p : List Key × V) (q : List Key × Addr × Value) => p.1 = q.1 ∧ H q.2.1 = some (.tup (p.1.map kV)) ∧ RelV p.2 q.2.2) kvs xs ∧
      ∃ o es ep, h.get? a = some o ∧ o.ExactDict ∧ o.data = .dict es ep ∧ es.toList = xs.map (entryOfKey (tupleKind (mixKind P w))) ∧ (xs.map (·.1)).Nodup
  | .set S n => h.SetOf (intKind P w) a S n
  | .ins C dx fs => H dx = some (.own a) ∧ fs.length ≤ 1000 ∧ dx ≠ a ∧ h.get? a = some (PySem.W.instObj C dx) ∧
      ∃ mA, h.Ns1 dx mA ∧ (∀ f, RelO (fs.lookup f) (mA f)) ∧ PySem.Within mA (fs.map (·.1))
  | .own _ => ∃ o, h.get? a = some o
  | .xd fs => ∃ mA, h.Ns1 a mA ∧ ∀ f, RelO (fs.lookup f) (mA f)
  | .rng lo hi => ∃ t u v, h.get? a = some { cls := .type "range", data := .fields #[.int lo t, .int hi u, .int 1 v] }
  | .frz o u => h.get? a = some o ∧ ObjOk H h a u
  | .tbl ps => h.get? a = some { cls := .none, data := .fields ps }
  | .met f x => h.get? a = some (PySem.W.methodObj (.ref f) (.ref x))
  | .ext φ => φ h ∧ (∃ o, h.get? a = some o) ∧ ∀ h1 h2 : Heap, φ h1 → (∀ o, h1.get? a = some o → h2.get? a = some o) → φ h2

def HOk (H : Hp) (h : Heap) : Prop := ∀ a o, H a = some o → ObjOk P w H h a o
end

section
variable {P : Program} {w : World} {H H' : Hp} {h h' : Heap} {a : Addr} {o : HO}
theorem ObjOk.lt (x : ObjOk P w H h a o) : a < h.objs.size := by
  cases o with
  | lst xs => obtain ⟨_, _, _, _, e⟩ := x; exact Heap.lt_size e
  | tup xs => obtain ⟨_, _, _, p⟩ := x; exact p.lt
  | dK kvs => obtain ⟨_, _, _, _, o, _, _, e, _⟩ := x; exact Heap.lt_size e
  | dT kvs => obtain ⟨_, _, _, _, o, _, _, e, _⟩ := x; exact Heap.lt_size e
  | set S n => obtain ⟨o, _, _, _, e, _⟩ := x; exact Heap.lt_size e
  | ins C dx fs => obtain ⟨_, _, _, e, _⟩ := x; exact Heap.lt_size e
  | own y => obtain ⟨_, e⟩ := x; exact Heap.lt_size e
  | xd fs => obtain ⟨_, ⟨_, _, _, e, _⟩, _⟩ := x; exact Heap.lt_size e
  | rng lo hi => obtain ⟨_, _, _, e⟩ := x; exact Heap.lt_size e
  | frz ob u => obtain ⟨e, _⟩ := x; exact Heap.lt_size e
  | tbl ps => exact Heap.lt_size (show h.get? a = some _ from x)
  | met f y => exact Heap.lt_size (show h.get? a = some _ from x)
  | ext φ => obtain ⟨_, ⟨_, e⟩, _⟩ := x; exact Heap.lt_size e
theorem Paired.mapP {α β : Type} {F G : α → β → Prop} : ∀ {l₁ : List α} {l₂ : List β}, Paired F l₁ l₂ → (∀ a b, F a b → G a b) → Paired G l₁ l₂
  | _, _, .nil, _ => .nil
  | _, _, .cons r t, f => .cons (f _ _ r) (Paired.mapP t f)
theorem ObjOk.stay (x : ObjOk P w H h a o) (k : ∀ b u, (b = a ∨ H b = some (.own a)) → h.get? b = some u → h'.get? b = some u)
    (ho : ∀ b, H b = some (.own a) → H' b = some (.own a)) (ht : ∀ b xs, H b = some (.tup xs) → H' b = some (.tup xs)) : ObjOk P w H' h' a o := by
  induction o with
  | lst xs => obtain ⟨z, its, n, r, e⟩ := x; exact ⟨z, its, n, r, k _ _ (.inl rfl) e⟩
  | tup xs => obtain ⟨z, its, r, ob, e, c⟩ := x; exact ⟨z, its, r, ob, k _ _ (.inl rfl) e, c⟩
  | dK kvs => obtain ⟨z, y, vs, r, ob, es, ep, e, c⟩ := x; exact ⟨z, y, vs, r, ob, es, ep, k _ _ (.inl rfl) e, c⟩
  | dT kvs =>
    obtain ⟨z, y, xs, r, ob, es, ep, e, c⟩ := x
    exact ⟨z, y, xs, Paired.mapP r fun p q z => ⟨z.1, ht _ _ z.2.1, z.2.2⟩, ob, es, ep, k _ _ (.inl rfl) e, c⟩
  | set S n => obtain ⟨ob, es, ep, t, e, c⟩ := x; exact ⟨ob, es, ep, t, k _ _ (.inl rfl) e, c⟩
  | ins C dx fs =>
    obtain ⟨d, z, ne, e, mA, ⟨od, es, ep, e2, c⟩, r⟩ := x
    exact ⟨ho _ d, z, ne, k _ _ (.inl rfl) e, mA, ⟨od, es, ep, k _ _ (.inr d) e2, c⟩, r⟩
  | own y => obtain ⟨ob, e⟩ := x; exact ⟨ob, k _ _ (.inl rfl) e⟩
  | xd fs => obtain ⟨mA, ⟨od, es, ep, e, c⟩, r⟩ := x; exact ⟨mA, ⟨od, es, ep, k _ _ (.inl rfl) e, c⟩, r⟩
  | rng lo hi => obtain ⟨t, u, v, e⟩ := x; exact ⟨t, u, v, k _ _ (.inl rfl) e⟩
  | frz ob u ih => obtain ⟨e, q⟩ := x; exact ⟨k _ _ (.inl rfl) e, ih q⟩
  | tbl ps =>
    have e : h.get? a = some { cls := .none, data := .fields ps } := x
    show h'.get? a = some { cls := .none, data := .fields ps }
    exact k a _ (.inl rfl) e
  | met f y =>
    have e : h.get? a = some (PySem.W.methodObj (.ref f) (.ref y)) := x
    show h'.get? a = some (PySem.W.methodObj (.ref f) (.ref y))
    exact k a _ (.inl rfl) e
  | ext φ => obtain ⟨p, ⟨o, e⟩, st⟩ := x; exact ⟨st _ _ p fun o q => k _ _ (.inl rfl) q, ⟨o, k _ _ (.inl rfl) e⟩, st⟩
theorem HOk.lt (x : HOk P w H h) (e : H a = some o) : a < h.objs.size := (x a o e).lt
theorem HOk.fresh (x : HOk P w H h) (e : h.objs.size ≤ a) : H a = none := by
  cases q : H a with
  | none => rfl
  | some u => exact absurd (Nat.lt_of_lt_of_le (x.lt q) e) (Nat.lt_irrefl _)

theorem HOk.kept (x : HOk P w H h) (k : ∀ b u, h.get? b = some u → h'.get? b = some u) : HOk P w H h' := fun a o e =>
  (x a o e).stay (fun b u _ q => k b u q) (fun _ q => q) fun _ _ q => q

theorem HOk.laid (x : HOk P w H h) (k : ∀ b u, h.get? b = some u → h'.get? b = some u) (hp : h.objs.size ≤ a) (new : ObjOk P w (upd H a o) h' a o) : HOk P w (upd H a o) h' := fun b u e => by
  have hn := x.fresh hp
  by_cases hb : b = a
  · subst hb; rw [upd_same] at e; cases e; exact new
  · rw [upd_ne hb] at e
    exact (x b u e).stay (fun c v _ q => k c v q) (fun c q => by rw [upd_ne (ne_of_none q hn)]; exact q) fun c xs q => by rw [upd_ne (ne_of_none q hn)]; exact q
end


def Rd (H : Hp) (a : Addr) (u : HO) : Prop := H a = some u ∨ ∃ o, H a = some (.frz o u)
theorem Rd.of {H : Hp} {a : Addr} {u : HO} (h : H a = some u) : Rd H a u := .inl h
theorem Rd.ok {P : Program} {w : World} {H : Hp} {h : Heap} {a : Addr} {u : HO} (r : Rd H a u) (x : HOk P w H h) : ObjOk P w H h a u := by
  rcases r with r | ⟨o, r⟩
  · exact x a u r
  · obtain ⟨_, q⟩ := x a _ r
    exact q

def Mut : Option HO → Prop
  | some (.lst _) => True
  | some (.dK _) => True
  | some (.dT _) => True
  | some (.set _ _) => True
  | some (.ins _ _ _) => True
  | some (.ext _) => True
  | _ => False
section
variable {P : Program} {w : World} {H : Hp} {h h' : Heap} {x e : Addr} {o' : HO}

theorem HOk.write (ok : HOk P w H h) (mu : Mut (H x)) (he : e = x ∨ H e = some (.own x)) (k : ∀ b u, b ≠ e → h.get? b = some u → h'.get? b = some u) (heo : ∃ u, h'.get? e = some u)
    (new : ObjOk P w (upd H x o') h' x o') : HOk P w (upd H x o') h' := fun b u q => by
  have nown : ∀ c y, H c = some (.own y) → c ≠ x := fun c y r z => by subst z; rw [r] at mu; exact mu
  have ntup : ∀ c xs, H c = some (.tup xs) → c ≠ x := fun c xs r z => by subst z; rw [r] at mu; exact mu
  by_cases hb : b = x
  · subst hb; rw [upd_same] at q; cases q; exact new
  · rw [upd_ne hb] at q
    by_cases hbe : b = e
    · have q' : H b = some (.own x) := by
        rcases he with z | z
        · exact absurd (hbe.trans z) hb
        · rw [hbe]; exact z
      rw [q] at q'; cases q'
      obtain ⟨v, hv⟩ := heo
      exact ⟨v, by rw [hbe]; exact hv⟩
    · refine (ok b u q).stay (fun c v hc r => k c v ?_ r) (fun c r => by rw [upd_ne (nown c b r)]; exact r) fun c xs r => by rw [upd_ne (ntup c xs r)]; exact r
      rcases hc with rfl | hc
      · exact hbe
      · rintro rfl
        rcases he with z | z
        · exact nown c b hc z
        · rw [hc] at z; cases z; exact hb rfl
end


structure Un (fs ex : List Addr) (H H' : Hp) (h h' : Heap) : Prop where
  keep : ∀ b o, h.get? b = some o → H b = none → b ∉ fs → b ∉ ex → h'.get? b = some o
  slot : ∀ b o, h.get? b = some o → H b = none → b ∈ fs → b ∉ ex → ∃ sl, h'.get? b = some { o with slots := sl }
  free : ∀ b o, h.get? b = some o → H b = none → b ∉ ex → H' b = none
  there : ∀ b o, h.get? b = some o → b ∉ ex → ∃ o', h'.get? b = some o'
  tups : ∀ b xs, H b = some (.tup xs) → H' b = some (.tup xs)
  frzs : ∀ b o u, H b = some (.frz o u) → H' b = some (.frz o u)
  tbls : ∀ b ps, H b = some (.tbl ps) → ∃ more, H' b = some (.tbl (ps ++ more))
section
variable {fs fs' ex ex' : List Addr} {H H1 H2 : Hp} {h h1 h2 h' : Heap} {a x e : Addr} {o : HO}
theorem Un.any (u : Un fs ex H H1 h h1) {b : Addr} {ob : Obj} (q : h.get? b = some ob) (n : H b = none) (hx : b ∉ ex) : ∃ sl, h1.get? b = some { ob with slots := sl } := by
  by_cases hb : b ∈ fs
  · exact u.slot b ob q n hb hx
  · exact ⟨ob.slots, u.keep b ob q n hb hx⟩
theorem Un.trans (a : Un fs ex H H1 h h1) (b : Un fs ex H1 H2 h1 h2) : Un fs ex H H2 h h2 where
  keep := fun c ob q n hc hx => b.keep c ob (a.keep c ob q n hc hx) (a.free c ob q n hx) hc hx
  slot := fun c ob q n hc hx => by
    obtain ⟨sl, e1⟩ := a.slot c ob q n hc hx
    obtain ⟨sl', e2⟩ := b.slot c _ e1 (a.free c ob q n hx) hc hx
    exact ⟨sl', e2⟩
  free := fun c ob q n hx => by
    obtain ⟨o', e1⟩ := a.there c ob q hx
    exact b.free c o' e1 (a.free c ob q n hx) hx
  there := fun c ob q hx => by
    obtain ⟨o', e1⟩ := a.there c ob q hx
    exact b.there c o' e1 hx
  tups := fun c xs q => b.tups c xs (a.tups c xs q)
  frzs := fun c ob xs q => b.frzs c ob xs (a.frzs c ob xs q)
  tbls := fun c ps q => by
    obtain ⟨m1, e1⟩ := a.tbls c ps q
    obtain ⟨m2, e2⟩ := b.tbls c _ e1
    exact ⟨m1 ++ m2, by rw [e2, Array.append_assoc]⟩
theorem Un.kept (k : ∀ b u, h.get? b = some u → h'.get? b = some u) : Un fs ex H H h h' :=
  ⟨fun b ob q _ _ _ => k b ob q, fun b ob q _ _ _ => ⟨ob.slots, k b ob q⟩, fun _ _ _ n _ => n, fun b ob q _ => ⟨ob, k b ob q⟩, fun _ _ q => q, fun _ _ _ q => q, fun _ ps q => ⟨#[], by rw [q]; simp⟩⟩
theorem Un.refl : Un fs ex H H h h := Un.kept fun _ _ q => q
theorem Un.laid (k : ∀ b u, h.get? b = some u → h'.get? b = some u) (hp : h.objs.size ≤ a) (hn : H a = none) : Un fs ex H (upd H a o) h h' where
  keep := fun b u q _ _ _ => k b u q
  slot := fun b u q _ _ _ => ⟨u.slots, k b u q⟩
  free := fun b u q n _ => by rw [upd_ne (Nat.ne_of_lt (Nat.lt_of_lt_of_le (Heap.lt_size q) hp))]; exact n
  there := fun b u q _ => ⟨u, k b u q⟩
  tups := fun b xs q => by rw [upd_ne (ne_of_none q hn)]; exact q
  frzs := fun b u xs q => by rw [upd_ne (ne_of_none q hn)]; exact q
  tbls := fun b ps q => ⟨#[], by rw [upd_ne (ne_of_none q hn), q]; simp⟩
theorem Un.write (mu : Mut (H x)) (he : e = x ∨ H e = some (.own x)) (k : ∀ b u, b ≠ e → h.get? b = some u → h'.get? b = some u) (heo : ∃ u, h'.get? e = some u) : Un fs ex H (upd H x o) h h' := by
  have hx : ∀ b, H b = none → b ≠ x := fun b n z => by subst z; rw [n] at mu; exact mu
  have hb : ∀ b, H b = none → b ≠ e := fun b n z => by
    subst z
    rcases he with r | r
    · exact hx b n r
    · rw [n] at r; cases r
  have hm : ∀ b u, H b = some u → ¬ Mut (some u) → b ≠ x := fun b u q nm z => by subst z; rw [q] at mu; exact nm mu
  refine ⟨fun b u q n _ _ => k b u (hb b n) q, fun b u q n _ _ => ⟨u.slots, k b u (hb b n) q⟩, fun b u q n _ => by rw [upd_ne (hx b n)]; exact n, fun b u q _ => ?_,
    fun b xs q => by rw [upd_ne (hm b _ q fun z => z)]; exact q, fun b u xs q => by rw [upd_ne (hm b _ q fun z => z)]; exact q, fun b ps q => ⟨#[], by rw [upd_ne (hm b _ q fun z => z), q]; simp⟩⟩
  by_cases hbe : b = e
  · subst hbe; exact heo
  · exact ⟨u, k b u hbe q⟩
theorem Un.mono (u : Un fs ex H H1 h h1) (hs : ∀ b ∈ fs, b ∈ fs') (hx : ∀ b ∈ ex, b ∈ ex') : Un fs' ex' H H1 h h1 :=
  ⟨fun b ob q n hb he => u.keep b ob q n (fun z => hb (hs b z)) fun z => he (hx b z), fun _ _ q n _ he => u.any q n fun z => he (hx _ z), fun b ob q n he => u.free b ob q n fun z => he (hx b z), fun b ob q he => u.there b ob q fun z => he (hx b z), u.tups, u.frzs, u.tbls⟩
end


def trk (h : Heap) (H : Hp) : List Addr := (List.range h.objs.size).filter fun a => (H a).isSome
def hidT (h : Heap) (H : Hp) : Heap := PySem.W.hideAll h (trk h H)
theorem hidT_size (h : Heap) (H : Hp) : (hidT h H).objs.size = h.objs.size := PySem.W.hideAll_size _ _
theorem hidT_get {h : Heap} {H : Hp} {b : Addr} {o : Obj} (e : h.get? b = some o) (n : H b = none) : (hidT h H).get? b = some o :=
  PySem.W.hideAll_get _ e fun hm => by
    have q : (H b).isSome = true := (List.mem_filter.mp hm).2
    rw [n] at q; simp at q
theorem of_hidT {h : Heap} {H : Hp} {b : Addr} {o : Obj} (e : (hidT h H).get? b = some o) : h.get? b = some o ∧ H b = none := by
  have e' : h.get? b = some o := PySem.W.of_hideAll (trk h H) e
  refine ⟨e', ?_⟩
  cases q : H b with
  | none => rfl
  | some x =>
    have hm : b ∈ trk h H := List.mem_filter.mpr ⟨List.mem_range.mpr (Heap.lt_size e'), by simp [q]⟩
    have z : (hidT h H).get? b = none := PySem.W.hideAll_none (trk h H) hm
    rw [z] at e; cases e


def allNews (g h : Heap) (L : Addr) : List (Addr × Obj) := (List.range h.objs.size).filterMap fun a => if a = L ∨ (g.get? a).isSome = true then none else (h.get? a).map fun o => (a, o)
def rest (g h : Heap) (L d : Addr) : List (Addr × Obj) := (allNews g h L).filter fun p => decide (p.1 ≠ d)
end L2

namespace L2
open PySem PySem.Spec PyProof.Rows


structure Mod (K : PySem.W.Frag) (mg : Str → Option Value) (base : Heap) : Prop where
  kin : K.In base
  glob : base.Ns mainGlobals mg
  blt : ∃ mb, base.Ns builtinsNs mb ∧ ∀ x : Str, x ≠ "__name__" → mb x = bootBuiltins x
  nolimit : base.NoLimit


structure Cx where
  prog : Program
  w : World
  K : PySem.W.Frag
  mg : Str → Option Value
  base : Heap
  A : Around
  N : List Str
  s₀ : Shared
  H₀ : Hp
  env : Env
  outer : List Env
  stack : List Env
  ex : List Addr
  fn : Str → Bool
  calm : Bool
  pn : List (Addr × Obj)
  xe : Value → Shared → Prop

def frs (l : List Env) : List Addr := l.filterMap (·.frame)
abbrev Cx.fs (X : Cx) : List Addr := frs X.outer

def Vis (sc : Scope) (x : Str) : Prop := sc.names.lookup x = some .local ∨ sc.names.lookup x = some .cell ∨ sc.names.lookup x = some .free
def Loc (sc : Scope) (x : Str) : Prop := sc.names.lookup x = some .local ∨ sc.names.lookup x = some .cell
def Look (env : Env) (h : Heap) (m : Str → Option Value) (x : Str) (u : Value) : Prop :=
  (env.kindOf x = some .local ∧ m x = some u) ∨ ((env.kindOf x = some .cell ∨ env.kindOf x = some .free) ∧ ∃ c, env.cells.lookup x = some c ∧ h.IsCell c (some u))

structure Cx.Ok (X : Cx) : Prop where
  mod : Mod X.K X.mg X.base
  kind : X.env.scope.kind = .function
  glob : X.env.globals = mainGlobals
  blt : X.env.builtins = builtinsNs
  above : X.s₀.heap.objs.size ≤ X.env.locals
  inj : ∀ x y c, X.env.cells.lookup x = some c → X.env.cells.lookup y = some c → x = y
  has : ∀ x, (X.env.kindOf x = some .cell ∨ X.env.kindOf x = some .free) → ∃ c, X.env.cells.lookup x = some c
  cab : ∀ x c, X.fn x = true → X.env.cells.lookup x = some c → X.s₀.heap.objs.size ≤ c
  hd : X.calm = true → X.A.handled = none
  frames : X.A.frames = some X.stack
  stk : X.stack = X.outer ∨ (X.stack = X.env :: X.outer ∧ X.env.frame = some X.env.locals)
  exf : ∀ b ∈ X.ex, b ≠ X.env.locals ∧ ∀ x c, X.env.cells.lookup x = some c → c ≠ b
  bs : ∀ b o, X.base.get? b = some o → X.s₀.heap.get? b = some o ∧ X.H₀ b = none
  bsz : X.base.objs.size ≤ X.s₀.heap.objs.size
  noex : ∀ b o, X.base.get? b = some o → b ∉ X.ex
  exfs : ∀ b ∈ X.ex, b ∉ X.fs
  funs : X.s₀.heap.FunFrames X.base X.outer
  frf : ∀ b ∈ X.fs, X.H₀ b = none

structure Inv (X : Cx) (pins : List (Addr × Obj)) (σ : List (Option V)) (H : Hp) (s : Shared) : Prop where
  ok : X.Ok
  os : s.os = X.s₀.os
  bare : AllBare s.gens
  base : Un X.fs X.ex X.H₀ H X.s₀.heap s.heap
  loc : ∃ m, s.heap.Ns X.env.locals m ∧ ∀ (i : Nat) (x : Str) (v : V), X.N[i]? = some x → σ[i]? = some (some v) → Vis X.env.scope x → ∃ u, RelV v u ∧ Look X.env s.heap m x u
  cell : ∀ x c, X.env.cells.lookup x = some c → ∃ v, s.heap.IsCell c v
  free : H X.env.locals = none
  freeC : ∀ x c, X.env.cells.lookup x = some c → H c = none
  pin : ∀ p ∈ X.pn ++ pins, s.heap.get? p.1 = some p.2 ∧ H p.1 = none ∧ p.1 ≠ X.env.locals ∧ p.1 ∉ X.fs ∧ ∀ v, p.2.data ≠ .cell v
  hok : HOk X.prog X.w H s.heap
  len : σ.length = X.N.length

section
variable {X : Cx} {pins : List (Addr × Obj)} {σ : List (Option V)} {H H' : Hp} {s : Shared} {h' : Heap}

theorem Cx.Ok.nofr (ok : X.Ok) {b : Addr} {o : Obj} (e : X.base.get? b = some o) : b ∉ X.fs := fun hb => by
  have := (ok.funs.mem hb).1
  rw [e] at this; cases this
theorem Inv.bs (I : Inv X pins σ H s) : ∀ b o, X.base.get? b = some o → s.heap.get? b = some o ∧ H b = none := fun b o e =>
  ⟨I.base.keep b o (I.ok.bs b o e).1 (I.ok.bs b o e).2 (I.ok.nofr e) (I.ok.noex b o e), I.base.free b o (I.ok.bs b o e).1 (I.ok.bs b o e).2 (I.ok.noex b o e)⟩
theorem Inv.bk (I : Inv X pins σ H s) : ∀ b o, X.base.get? b = some o → s.heap.get? b = some o := fun b o e => (I.bs b o e).1
theorem Inv.mod (I : Inv X pins σ H s) : Mod X.K X.mg X.base := I.ok.mod
theorem Inv.kIn (I : Inv X pins σ H s) : X.K.In s.heap := I.ok.mod.kin.keeps I.bk
theorem Inv.nolimit (I : Inv X pins σ H s) : s.heap.NoLimit := I.ok.mod.nolimit.keeps I.bk

theorem Inv.fr (I : Inv X pins σ H s) : ∃ m, Fr X.base X.env.locals s.heap m :=
  let ⟨m, hn, _⟩ := I.loc
  ⟨m, hn, I.bk, Nat.le_trans I.ok.bsz I.ok.above⟩
theorem Inv.lt (I : Inv X pins σ H s) : X.env.locals < s.heap.objs.size := let ⟨_, hn, _⟩ := I.loc; hn.lt
theorem Inv.sz (I : Inv X pins σ H s) : X.s₀.heap.objs.size ≤ s.heap.objs.size := Nat.le_trans I.ok.above (Nat.le_of_lt I.lt)
theorem Inv.nofs (I : Inv X pins σ H s) {a : Addr} (h : s.heap.objs.size ≤ a) : a ∉ X.fs := fun hb => by
  obtain ⟨_, o, ho, _⟩ := I.ok.funs.mem hb
  exact absurd (Nat.lt_of_lt_of_le (Heap.lt_size ho) (Nat.le_trans I.sz h)) (Nat.lt_irrefl _)
theorem Inv.cne (I : Inv X pins σ H s) : ∀ x c, X.env.cells.lookup x = some c → c ≠ X.env.locals := fun x c e z => by
  obtain ⟨v, o, ho, hd⟩ := I.cell x c e
  obtain ⟨m, ⟨o', es, ep, ho', hd', _⟩, _⟩ := I.loc
  rw [z, ho'] at ho; cases ho; rw [hd'] at hd; cases hd
theorem Inv.funs (I : Inv X pins σ H s) : s.heap.FunFrames X.base X.outer := by
  have all : ∀ (l : List Env), (∀ b ∈ frs l, b ∈ X.fs) → X.s₀.heap.FunFrames X.base l → s.heap.FunFrames X.base l := by
    intro l
    induction l with
    | nil => intro _ _; trivial
    | cons env r ih =>
      intro hs hl
      obtain ⟨hk, ⟨L, o, hf, hn, ho, hd⟩, hr⟩ := hl
      have hL : L ∈ X.fs := hs L (by unfold frs; rw [List.filterMap_cons, hf]; exact List.mem_cons_self)
      obtain ⟨sl, e⟩ := I.base.slot L o ho (I.ok.frf L hL) hL fun z => I.ok.exfs L z hL
      exact ⟨hk, ⟨L, _, hf, hn, e, hd⟩, ih (fun b hb => hs b (by unfold frs; rw [List.filterMap_cons, hf]; exact List.mem_cons_of_mem _ hb)) hr⟩
  exact all X.outer (fun _ hb => hb) I.ok.funs


theorem Inv.stack (I : Inv X pins σ H s) : s.heap.FunFrames X.base X.stack := by
  rcases I.ok.stk with e | ⟨e, hf⟩
  · rw [e]; exact I.funs
  · rw [e]
    obtain ⟨m, hn, _⟩ := I.loc
    refine .cons (by rw [I.ok.kind]; decide) hf hn ?_ I.funs
    exact Heap.get?_none_of_le (Nat.le_trans I.ok.bsz I.ok.above)
theorem Inv.stkSub (I : Inv X pins σ H s) : ∀ b ∈ frs X.stack, b ∈ X.env.locals :: X.fs := fun b hb => by
  rcases I.ok.stk with e | ⟨e, hf⟩
  · rw [e] at hb; exact List.mem_cons_of_mem _ hb
  · rw [e] at hb
    unfold frs at hb
    rw [List.filterMap_cons, hf] at hb
    exact hb
theorem Inv.stkFree (I : Inv X pins σ H s) : ∀ b ∈ frs X.stack, H b = none := fun b hb => by
  rcases List.mem_cons.mp (I.stkSub b hb) with e | hb
  · rw [e]; exact I.free
  · obtain ⟨_, o, ho, _⟩ := I.ok.funs.mem hb
    exact I.base.free b o ho (I.ok.frf b hb) fun z => I.ok.exfs b z hb


theorem Inv.step {g' : Array GenState} {t' : Nat} {d' : Drawn} {ch : List Addr} (I : Inv X pins σ H s)
    (hch : ∀ b ∈ ch, (b ∈ X.ex ∨ X.s₀.heap.objs.size ≤ b) ∧ b ≠ X.env.locals ∧ (∀ x c, X.env.cells.lookup x = some c → c ≠ b) ∧ ∀ p ∈ X.pn ++ pins, p.1 ≠ b)
    (keep : ∀ b o, b ≠ X.env.locals → b ∉ X.fs → b ∉ ch → s.heap.get? b = some o → H b = none → h'.get? b = some o)
    (slot : ∀ b o, b ≠ X.env.locals → b ∈ X.fs → b ∉ ch → s.heap.get? b = some o → H b = none → ∃ sl, h'.get? b = some { o with slots := sl }) (free : ∀ b o, b ∉ ch → s.heap.get? b = some o → H b = none → H' b = none)
    (there : ∀ b o, b ∉ ch → s.heap.get? b = some o → ∃ o', h'.get? b = some o')
    (tups : ∀ b xs, H b = some (.tup xs) → H' b = some (.tup xs)) (frzs : ∀ b o u, H b = some (.frz o u) → H' b = some (.frz o u)) (tbls : ∀ b ps, H b = some (.tbl ps) → ∃ more, H' b = some (.tbl (ps ++ more)))
    (ns : ∀ m, s.heap.Ns X.env.locals m → h'.Ns X.env.locals m) (hok : HOk X.prog X.w H' h') (hg : AllBare g') :
    Inv X pins σ H' { s with heap := h', gens := g', drawn := d', toks := t' } := by
  have neL : ∀ b o, X.s₀.heap.get? b = some o → b ≠ X.env.locals := fun b o e => Nat.ne_of_lt (Nat.lt_of_lt_of_le (Heap.lt_size e) I.ok.above)
  have neC : ∀ b o, X.s₀.heap.get? b = some o → b ∉ X.ex → b ∉ ch := fun b o e hx hb => by
    rcases (hch b hb).1 with z | z
    · exact hx z
    · exact absurd (Nat.lt_of_lt_of_le (Heap.lt_size e) z) (Nat.lt_irrefl _)
  have cellK : ∀ x c, X.env.cells.lookup x = some c → ∀ v, s.heap.IsCell c v → h'.IsCell c v := fun x c e v ⟨o, ho, hd⟩ => by
    have nch : c ∉ ch := fun z => (hch c z).2.2.1 x c e rfl
    by_cases hc : c ∈ X.fs
    · obtain ⟨sl, q⟩ := slot c o (I.cne x c e) hc nch ho (I.freeC x c e)
      exact ⟨_, q, hd⟩
    · exact ⟨o, keep c o (I.cne x c e) hc nch ho (I.freeC x c e), hd⟩
  refine ⟨I.ok, I.os, hg, ⟨fun b o e n hb hx => ?_, fun b o e n hb hx => ?_, fun b o e n hx => ?_, fun b o e hx => ?_, fun b xs e => tups b xs (I.base.tups b xs e), fun b o xs e => frzs b o xs (I.base.frzs b o xs e), fun b ps e => ?_⟩, ?_, fun x c e => ?_, ?_, fun x c e => ?_, fun p hp => ?_, hok, I.len⟩
  · exact keep b o (neL b o e) hb (neC b o e hx) (I.base.keep b o e n hb hx) (I.base.free b o e n hx)
  · obtain ⟨sl, e1⟩ := I.base.slot b o e n hb hx
    obtain ⟨sl', e2⟩ := slot b _ (neL b o e) hb (neC b o e hx) e1 (I.base.free b o e n hx)
    exact ⟨sl', e2⟩
  · obtain ⟨o', e1⟩ := I.base.there b o e hx
    exact free b o' (neC b o e hx) e1 (I.base.free b o e n hx)
  · obtain ⟨o', e1⟩ := I.base.there b o e hx
    exact there b o' (neC b o e hx) e1
  · obtain ⟨m1, e1⟩ := I.base.tbls b ps e
    obtain ⟨m2, e2⟩ := tbls b _ e1
    exact ⟨m1 ++ m2, by rw [e2, Array.append_assoc]⟩
  · obtain ⟨m, hn, hl⟩ := I.loc
    refine ⟨m, ns m hn, fun i x v e1 e2 e3 => ?_⟩
    obtain ⟨u, r, l⟩ := hl i x v e1 e2 e3
    refine ⟨u, r, ?_⟩
    rcases l with l | ⟨k, c, e, z⟩
    · exact .inl l
    · exact .inr ⟨k, c, e, cellK x c e _ z⟩
  · obtain ⟨v, z⟩ := I.cell x c e
    exact ⟨v, cellK x c e v z⟩
  · obtain ⟨m, ⟨o, _, _, ho, _⟩, _⟩ := I.loc
    exact free _ o (fun z => (hch _ z).2.1 rfl) ho I.free
  · obtain ⟨v, o, ho, hd⟩ := I.cell x c e
    exact free c o (fun z => (hch c z).2.2.1 x c e rfl) ho (I.freeC x c e)
  · obtain ⟨e, n, ne, nf, d⟩ := I.pin p hp
    have nch : p.1 ∉ ch := fun z => (hch p.1 z).2.2.2 p hp rfl
    exact ⟨keep p.1 p.2 ne nf nch e n, free p.1 p.2 nch e n, ne, nf, d⟩

theorem Inv.un {t' : Nat} (I : Inv X pins σ H s) (u : Un X.fs [] H H' s.heap h') (hok : HOk X.prog X.w H' h') : Inv X pins σ H' { s with heap := h', toks := t' } := by
  obtain ⟨m, ⟨o, es, ep, ho, r⟩, _⟩ := id I.loc
  obtain ⟨sl, hL⟩ := u.any ho I.free (by simp)
  exact I.step (g' := s.gens) (d' := s.drawn) (ch := []) (fun _ z => nomatch z) (fun b o _ hb _ e n => u.keep b o e n hb (by simp)) (fun b o _ hb _ e n => u.slot b o e n hb (by simp)) (fun b o _ e n => u.free b o e n (by simp)) (fun b o _ e => u.there b o e (by simp)) u.tups u.frzs u.tbls (fun m' hm => by
    obtain ⟨o', es', ep', ho', r'⟩ := hm
    rw [ho] at ho'; cases ho'
    exact ⟨_, es', ep', hL, r'⟩) hok I.bare

theorem Inv.call {g' : Array GenState} {t' : Nat} {d' : Drawn} {ch : List Addr} (I : Inv X pins σ H s) (u : Un (frs X.stack) ch H H' s.heap h') (hok : HOk X.prog X.w H' h') (hg : AllBare g')
    (hch : ∀ b ∈ ch, (b ∈ X.ex ∨ X.s₀.heap.objs.size ≤ b) ∧ b ≠ X.env.locals ∧ (∀ x c, X.env.cells.lookup x = some c → c ≠ b) ∧ ∀ p ∈ X.pn ++ pins, p.1 ≠ b) :
    Inv X pins σ H' { s with heap := h', gens := g', drawn := d', toks := t' } := by
  obtain ⟨m, ⟨o, es, ep, ho, r⟩, _⟩ := id I.loc
  obtain ⟨sl, hL⟩ := u.any ho I.free fun z => (hch _ z).2.1 rfl
  exact I.step (ch := ch) hch (fun b o hL hb hc e n => u.keep b o e n (fun z => (List.mem_cons.mp (I.stkSub b z)).elim hL hb) hc) (fun b o _ _ hc e n => u.any e n hc) (fun b o hc e n => u.free b o e n hc) (fun b o hc e => u.there b o e hc) u.tups u.frzs u.tbls (fun m' hm => by
    obtain ⟨o', es', ep', ho', r'⟩ := hm
    rw [ho] at ho'; cases ho'
    exact ⟨_, es', ep', hL, r'⟩) hok hg

theorem Inv.turned {t' : Nat} {it : Addr} (I : Inv X pins σ H s) (k : ∀ b o, b ≠ it → s.heap.get? b = some o → h'.get? b = some o) (hn : H it = none) (hL : it ≠ X.env.locals)
    (h1 : it ∈ X.ex ∨ X.s₀.heap.objs.size ≤ it) (h2 : ∀ x c, X.env.cells.lookup x = some c → c ≠ it) (h3 : ∀ p ∈ X.pn ++ pins, p.1 ≠ it) : Inv X pins σ H { s with heap := h', toks := t' } := by
  have nit : ∀ b u, H b = some u → b ≠ it := fun b u e z => by rw [z, hn] at e; cases e
  refine I.step (g' := s.gens) (d' := s.drawn) (ch := [it]) (fun b hb => ?_) (fun b o _ _ hc e _ => k b o (fun z => hc (by simp [z])) e) (fun b o _ _ hc e _ => ⟨o.slots, k b o (fun z => hc (by simp [z])) e⟩) (fun _ _ _ _ n => n)
    (fun b o hc e => ⟨o, k b o (fun z => hc (by simp [z])) e⟩) (fun _ _ e => e) (fun _ _ _ e => e) (fun b ps e => ⟨#[], by rw [e]; simp⟩) (fun m hm => ?_) (fun b u e => ?_) I.bare
  · have e : b = it := by simpa using hb
    subst e
    exact ⟨h1, hL, h2, h3⟩
  · obtain ⟨o, es, ep, ho, r⟩ := hm
    exact ⟨o, es, ep, k _ o (Ne.symm hL) ho, r⟩
  · refine (I.hok b u e).stay (fun c v hc q => k c v ?_ q) (fun _ q => q) fun _ _ q => q
    rcases hc with z | z
    · rw [z]; exact nit b u e
    · exact nit c _ z
theorem Inv.tok (I : Inv X pins σ H s) (t : Nat) : Inv X pins σ H { s with toks := t } := I.un (h' := s.heap) (t' := t) Un.refl I.hok

theorem Inv.kept {t' : Nat} (I : Inv X pins σ H s) (k : ∀ b u, s.heap.get? b = some u → h'.get? b = some u) : Inv X pins σ H { s with heap := h', toks := t' } := I.un (Un.kept k) (I.hok.kept k)

theorem Inv.laid {a : Addr} {o : HO} {t' : Nat} (I : Inv X pins σ H s) (k : ∀ b u, s.heap.get? b = some u → h'.get? b = some u) (hp : s.heap.objs.size ≤ a) (new : ObjOk X.prog X.w (upd H a o) h' a o) :
    Inv X pins σ (upd H a o) { s with heap := h', toks := t' } := I.un (Un.laid k hp (I.hok.fresh hp)) (I.hok.laid k hp new)

theorem Inv.write {x e : Addr} {o : HO} {t' : Nat} (I : Inv X pins σ H s) (mu : Mut (H x)) (he : e = x ∨ H e = some (.own x)) (k : ∀ b u, b ≠ e → s.heap.get? b = some u → h'.get? b = some u) (heo : ∃ u, h'.get? e = some u)
    (new : ObjOk X.prog X.w (upd H x o) h' x o) : Inv X pins σ (upd H x o) { s with heap := h', toks := t' } := I.un (Un.write mu he k heo) (I.hok.write mu he k heo new)

theorem Inv.pins_of {pins' : List (Addr × Obj)} (I : Inv X pins σ H s) (h : ∀ p ∈ pins', s.heap.get? p.1 = some p.2 ∧ H p.1 = none ∧ p.1 ≠ X.env.locals ∧ p.1 ∉ X.fs ∧ ∀ v, p.2.data ≠ .cell v) : Inv X pins' σ H s :=
  ⟨I.ok, I.os, I.bare, I.base, I.loc, I.cell, I.free, I.freeC, fun p hp => (List.mem_append.mp hp).elim (fun z => I.pin p (List.mem_append_left _ z)) (h p), I.hok, I.len⟩

theorem nodup_ix {N : List Str} (hN : N.Nodup) {i j : Nat} {x : Str} (a : N[i]? = some x) (b : N[j]? = some x) : i = j := by
  obtain ⟨h1, e1⟩ := List.getElem?_eq_some_iff.mp a
  obtain ⟨h2, e2⟩ := List.getElem?_eq_some_iff.mp b
  exact (List.getElem_inj hN).mp (e1.trans e2.symm)


theorem store_ok2 {M : Model} {A : Around} {E : Value → Shared → Prop} {i : Nat} {x : Str} {v : V} {u : Value} {Q : Unit → Shared → Prop} (I : Inv X pins σ H s) (hN : X.N.Nodup) (hi : X.N[i]? = some x) (hx : Loc X.env.scope x) (r : RelV v u)
    (h : ∀ s', Inv X pins (σ.set i (some v)) H s' → (∃ a, Heap.SameBut a s.heap s'.heap ∧ (a = X.env.locals ∨ X.env.cells.lookup x = some a)) → Q () s') (hf : X.fn x = true ∨ X.env.scope.names.lookup x = some .local := by first | exact .inl rfl | exact .inr rfl | assumption) : wpAny M A (storeName X.env x u) Q E s := by
  obtain ⟨m, hn, hl⟩ := id I.loc
  have hcls : (X.env.scope.kind == .class || (X.env.scope.kind == .module && X.env.locals != X.env.globals)) = false := by rw [I.ok.kind]; rfl
  have hiσ : i < σ.length := by rw [I.len]; exact (List.getElem?_eq_some_iff.mp hi).1
  have cne := I.cne
  have tracked : ∀ {a : Addr} {h' : Heap}, (∃ o, s.heap.get? a = some o ∧ H a = none) → Heap.SameBut a s.heap h' → HOk X.prog X.w H h' := fun {a h'} ha hs b ob e => by
    obtain ⟨_, _, hfree⟩ := ha
    refine (I.hok b ob e).stay (fun c w' hc q => (hs.2 c ?_).trans q) (fun _ q => q) fun _ _ q => q
    rintro rfl
    rcases hc with rfl | hc
    · rw [hfree] at e; cases e
    · rw [hfree] at hc; cases hc
  rcases hx with hk | hk
  · refine wpAny_storeName_local hk hn (fun h' hn' hs => ?_) hcls
    obtain ⟨oL, _, _, hoL, _⟩ := id hn
    refine h _ ⟨I.ok, I.os, I.bare, ⟨fun b o e n hb hx => ?_, fun b o e n hb hx => ?_, I.base.free, fun b o e hx => ?_, I.base.tups, I.base.frzs, I.base.tbls⟩, ⟨_, hn', fun j y v' e1 e2 e3 => ?_⟩, fun y c e => ?_, I.free, I.freeC, fun p hp => ?_, tracked ⟨oL, hoL, I.free⟩ hs, by simpa using I.len⟩ ⟨_, hs, .inl rfl⟩
    · exact (hs.2 b (Nat.ne_of_lt (Nat.lt_of_lt_of_le (Heap.lt_size e) I.ok.above))).trans (I.base.keep b o e n hb hx)
    · obtain ⟨sl, e1⟩ := I.base.slot b o e n hb hx
      exact ⟨sl, (hs.2 b (Nat.ne_of_lt (Nat.lt_of_lt_of_le (Heap.lt_size e) I.ok.above))).trans e1⟩
    · obtain ⟨o', e1⟩ := I.base.there b o e hx
      exact ⟨o', (hs.2 b (Nat.ne_of_lt (Nat.lt_of_lt_of_le (Heap.lt_size e) I.ok.above))).trans e1⟩
    · by_cases hj : j = i
      · subst hj
        rw [hi] at e1; cases e1
        rw [List.getElem?_set_self hiσ] at e2
        cases e2
        exact ⟨u, r, .inl ⟨hk, by simp⟩⟩
      · rw [List.getElem?_set_ne (Ne.symm hj)] at e2
        obtain ⟨u', r', q⟩ := hl j y v' e1 e2 e3
        refine ⟨u', r', ?_⟩
        rcases q with ⟨k, e⟩ | ⟨k, c, e, z⟩
        · refine .inl ⟨k, ?_⟩
          have : y ≠ x := fun e => hj (nodup_ix hN e1 (e ▸ hi))
          simp [this, e]
        · exact .inr ⟨k, c, e, z.sameBut hs (cne y c e)⟩
    · obtain ⟨w', z⟩ := I.cell y c e
      exact ⟨w', z.sameBut hs (cne y c e)⟩
    · obtain ⟨e, n, ne, nf, d⟩ := I.pin p hp
      exact ⟨(hs.2 p.1 ne).trans e, n, ne, nf, d⟩
  · have hfn : X.fn x = true := by
      rcases hf with z | z
      · exact z
      · rw [z] at hk; cases hk
    obtain ⟨c, hc⟩ := I.ok.has x (.inl hk)
    obtain ⟨w', z⟩ := I.cell x c hc
    refine wpAny_storeName_cell I.ok.kind hk hc z (fun h' hc' hs => ?_)
    obtain ⟨oc, hoc, hocd⟩ := id z
    refine h { s with heap := h' } ⟨I.ok, I.os, I.bare, ⟨fun b o e n hb hx => ?_, fun b o e n hb hx => ?_, I.base.free, fun b o e hx => ?_, I.base.tups, I.base.frzs, I.base.tbls⟩, ⟨m, hn.sameBut hs (Ne.symm (cne x c hc)), fun j y v' e1 e2 e3 => ?_⟩, fun y c' e => ?_, I.free, I.freeC, fun p hp => ?_, tracked ⟨oc, hoc, I.freeC x c hc⟩ hs, by simpa using I.len⟩ ⟨c, hs, .inr hc⟩
    · exact (hs.2 b (Nat.ne_of_lt (Nat.lt_of_lt_of_le (Heap.lt_size e) (I.ok.cab x c hfn hc)))).trans (I.base.keep b o e n hb hx)
    · obtain ⟨sl, e1⟩ := I.base.slot b o e n hb hx
      exact ⟨sl, (hs.2 b (Nat.ne_of_lt (Nat.lt_of_lt_of_le (Heap.lt_size e) (I.ok.cab x c hfn hc)))).trans e1⟩
    · obtain ⟨o', e1⟩ := I.base.there b o e hx
      exact ⟨o', (hs.2 b (Nat.ne_of_lt (Nat.lt_of_lt_of_le (Heap.lt_size e) (I.ok.cab x c hfn hc)))).trans e1⟩
    · by_cases hj : j = i
      · subst hj
        rw [hi] at e1; cases e1
        rw [List.getElem?_set_self hiσ] at e2
        cases e2
        exact ⟨u, r, .inr ⟨.inl hk, c, hc, hc'⟩⟩
      · rw [List.getElem?_set_ne (Ne.symm hj)] at e2
        obtain ⟨u', r', q⟩ := hl j y v' e1 e2 e3
        refine ⟨u', r', ?_⟩
        rcases q with q | ⟨k, c', e, z'⟩
        · exact .inl q
        · refine .inr ⟨k, c', e, z'.sameBut hs ?_⟩
          rintro rfl
          exact hj (nodup_ix hN e1 (I.ok.inj _ _ _ e hc ▸ hi))
    · by_cases hcc : c' = c
      · subst hcc; exact ⟨_, hc'⟩
      · obtain ⟨w2, z2⟩ := I.cell y c' e
        exact ⟨w2, z2.sameBut hs hcc⟩
    · obtain ⟨e, n, ne, nf, d⟩ := I.pin p hp
      refine ⟨(hs.2 p.1 ?_).trans e, n, ne, nf, d⟩
      intro q
      rw [q, hoc] at e
      have q' : oc = p.2 := Option.some.inj e
      exact d w' (by rw [← q']; exact hocd)
theorem store_ok {M : Model} {A : Around} {E : Value → Shared → Prop} {i : Nat} {x : Str} {v : V} {u : Value} {Q : Unit → Shared → Prop} (I : Inv X pins σ H s) (hN : X.N.Nodup) (hi : X.N[i]? = some x) (hx : Loc X.env.scope x) (r : RelV v u)
    (h : ∀ s', Inv X pins (σ.set i (some v)) H s' → Q () s') (hf : X.fn x = true ∨ X.env.scope.names.lookup x = some .local := by first | exact .inl rfl | exact .inr rfl | assumption) : wpAny M A (storeName X.env x u) Q E s :=
  store_ok2 I hN hi hx r (fun s' I' _ => h s' I') hf

theorem Inv.call' {s' : Shared} {ch : List Addr} (I : Inv X pins σ H s) (ho : s'.os = s.os) (u : Un (frs X.stack) ch H H' s.heap s'.heap) (hok : HOk X.prog X.w H' s'.heap) (hg : AllBare s'.gens)
    (hch : ∀ b ∈ ch, (b ∈ X.ex ∨ X.s₀.heap.objs.size ≤ b) ∧ b ≠ X.env.locals ∧ (∀ x c, X.env.cells.lookup x = some c → c ≠ b) ∧ ∀ p ∈ X.pn ++ pins, p.1 ≠ b) : Inv X pins σ H' s' := by
  obtain ⟨h', g', d', t', o'⟩ := s'
  have e : o' = s.os := ho
  subst e
  exact I.call (g' := g') (t' := t') (d' := d') u hok hg hch
end



abbrev XK := Value → Option Addr → Hp → Prop
abbrev St := List (Option V)
abbrev VK := V → Hp → Prop

abbrev TE := St → Hp → VK → Prop
abbrev TT := St → Hp → (Bool → Hp → Prop) → Prop
abbrev TA := St → Hp → (List V → Hp → Prop) → Prop

structure Ends where
  nx : St → Hp → Prop
  rt : VK
  bk : St → Hp → Prop := fun _ _ => False
  ct : St → Hp → Prop := fun _ _ => False
abbrev TS := Ends → St → Hp → Prop

def EP (X : Cx) (pins : List (Addr × Obj)) (σ : St) (Q : VK) (u : Value) (s' : Shared) : Prop := ∃ v H', Inv X pins σ H' s' ∧ RelV v u ∧ Q v H'
def TP (X : Cx) (pins : List (Addr × Obj)) (σ : St) (Q : Bool → Hp → Prop) (b : Bool) (s' : Shared) : Prop := ∃ H', Inv X pins σ H' s' ∧ Q b H'
def AP (X : Cx) (pins : List (Addr × Obj)) (σ : St) (Q : List V → Hp → Prop) (us : List Value) (s' : Shared) : Prop := ∃ vs H', Inv X pins σ H' s' ∧ Vals vs us ∧ Q vs H'
def SP (X : Cx) (pins : List (Addr × Obj)) (D : Ends) (f : Flow) (s' : Shared) : Prop :=
  match f with
  | .next => ∃ σ' H', Inv X pins σ' H' s' ∧ D.nx σ' H'
  | .brk => ∃ σ' H', Inv X pins σ' H' s' ∧ D.bk σ' H'
  | .cont => ∃ σ' H', Inv X pins σ' H' s' ∧ D.ct σ' H'
  | .ret u => ∃ v σ' H', Inv X pins σ' H' s' ∧ RelV v u ∧ D.rt v H'

def PE (X : Cx) (e : Expr) (t : TE) : Prop :=
  ∀ (pins : List (Addr × Obj)) (s : Shared) (σ : St) (H : Hp) (Q : VK), Inv X pins σ H s → t σ H Q → wpAny (model X.prog X.w) X.A (eval e X.env) (EP X pins σ Q) X.xe s
def PT (X : Cx) (e : Expr) (t : TT) : Prop :=
  ∀ (pins : List (Addr × Obj)) (s : Shared) (σ : St) (H : Hp) (Q : Bool → Hp → Prop), Inv X pins σ H s → t σ H Q → wpAny (model X.prog X.w) X.A (isTrue e X.env (eval e X.env)) (TP X pins σ Q) X.xe s

def PW (X : Cx) (e : Expr) (t : TT) : Prop :=
  ∀ (whole : Sem Value) (pins : List (Addr × Obj)) (s : Shared) (σ : St) (H : Hp) (Q : Bool → Hp → Prop), Inv X pins σ H s → t σ H Q → wpAny (model X.prog X.w) X.A (isTrue e X.env whole) (TP X pins σ Q) X.xe s
theorem PW.pt {X : Cx} {e : Expr} {t : TT} (h : PW X e t) : PT X e t := h _

def PA (X : Cx) (es : List Expr) (t : TA) : Prop :=
  ∀ (pos : Pos) (pins : List (Addr × Obj)) (s : Shared) (σ : St) (H : Hp) (Q : List V → Hp → Prop), Inv X pins σ H s → t σ H Q → wpAny (model X.prog X.w) X.A (spliced (backTo pos (starEach es X.env))) (AP X pins σ Q) X.xe s
def PS (X : Cx) (st : Stmt) (t : TS) : Prop :=
  ∀ (pins : List (Addr × Obj)) (s : Shared) (σ : St) (H : Hp) (D : Ends), Inv X pins σ H s → t D σ H → wpAny (model X.prog X.w) X.A (exec st X.env) (SP X pins D) X.xe s
def PSs (X : Cx) (st : List Stmt) (t : TS) : Prop :=
  ∀ (pins : List (Addr × Obj)) (s : Shared) (σ : St) (H : Hp) (D : Ends), Inv X pins σ H s → t D σ H → wpAny (model X.prog X.w) X.A (execs st X.env) (SP X pins D) X.xe s

theorem thn {α : Type} {t : Sem α} {Q Q' : α → Shared → Prop} {M : Model} {A : Around} {E : Value → Shared → Prop} {s : Shared} (h : wpAny M A t Q E s) (hQ : ∀ a s, Q a s → Q' a s) : wpAny M A t Q' E s := wpAny_mono h hQ fun _ _ x => x
end L2

namespace L2
open PySem PySem.Spec PyProof.Rows
section
variable {X : Cx}


def tVar (i : Nat) : TE := fun σ H Q => ∃ v, σ[i]? = some (some v) ∧ Q v H
def tC (v : V) : TE := fun _ H Q => Q v H
theorem pe_var {i : Nat} {x : Str} {pos : Pos} (hN : X.N[i]? = some x) (hv : Vis X.env.scope x) (hd : (x == ("__debug__" : Str)) = false := by decide) (hcd : (x == ("__classdict__" : Str)) = false := by decide) : PE X (.Name x pos) (tVar i) := by
  intro pins s σ H Q I h
  obtain ⟨v, e, h⟩ := h
  obtain ⟨m, hn, hl⟩ := I.loc
  obtain ⟨u, r, l⟩ := hl i x v hN e hv
  have fin : EP X pins σ Q u s := ⟨v, H, I, r, h⟩
  rcases l with ⟨hk, hm⟩ | ⟨hk, c, hc, hcell⟩
  · exact wpAny_Name (wpAny_loadName_local I.ok.kind hk hn hm fin) hd
  · rcases hk with hk | hk
    · exact wpAny_Name (wpAny_loadName_cell I.ok.kind hk hc hcell fin) hd
    · exact wpAny_Name (wpAny_loadName_free I.ok.kind hk hc hcell fin hcd) hd
theorem pe_int {i j pos} : PE X (.Constant (.int i) j pos) (tC (.int i)) := fun _ _ _ H _ I h => wpAny_Constant_int ⟨.int i, H, I.tok _, ⟨_, rfl⟩, h⟩
theorem pe_bl {b j pos} : PE X (.Constant (.bool b) j pos) (tC (.bl b)) := fun _ _ _ H _ I h => Constant_bool ⟨.bl b, H, I, rfl, h⟩
theorem pe_non {j pos} : PE X (.Constant .none j pos) (tC .non) := fun _ _ _ H _ I h => Constant_none ⟨.non, H, I, rfl, h⟩
theorem pe_str {x j pos} : PE X (.Constant (.str x) j pos) (tC (.str x)) := fun _ _ _ H _ I h => Calls.Constant_str ⟨.str x, H, I.tok _, ⟨_, rfl⟩, h⟩


def Gl (X : Cx) (x : Str) : Prop := X.env.kindOf x = some .globalImplicit
theorem ld_glob {E : Value → Shared → Prop} {pins : List (Addr × Obj)} {s : Shared} {σ : St} {H : Hp} {x : Str} {u : Value} {pos : Pos} {Q : Value → Shared → Prop} (I : Inv X pins σ H s) (hg : Gl X x) (hm : X.mg x = some u) (h : Q u s)
    (hd : (x == ("__debug__" : Str)) = false := by decide) : wpAny (model X.prog X.w) X.A (eval (.Name x pos) X.env) Q E s :=
  Calls.Name_function_global I.ok.kind hg (Calls.loadGlobal_global (by rw [I.ok.glob]; exact I.mod.glob.keeps I.bk) hm h) hd
theorem ld_blt {E : Value → Shared → Prop} {pins : List (Addr × Obj)} {s : Shared} {σ : St} {H : Hp} {x : Str} {u : Value} {pos : Pos} {Q : Value → Shared → Prop} (I : Inv X pins σ H s) (hg : Gl X x) (hm : X.mg x = none) (hv : bootBuiltins x = some u) (h : Q u s)
    (hn : x ≠ "__name__" := by decide) (hd : (x == ("__debug__" : Str)) = false := by decide) : wpAny (model X.prog X.w) X.A (eval (.Name x pos) X.env) Q E s := by
  obtain ⟨mb, h1, h2⟩ := I.mod.blt
  exact Calls.Name_function_global I.ok.kind hg (Calls.loadGlobal_builtin (by rw [I.ok.glob]; exact I.mod.glob.keeps I.bk) hm (by rw [I.ok.blt]; exact h1.keeps I.bk) ((h2 x hn).trans hv) h) hd

theorem pe_bltn {x : Str} {v : V} {u : Value} {pos : Pos} (hg : Gl X x) (hm : X.mg x = none) (hv : bootBuiltins x = some u) (r : RelV v u) (hn : x ≠ "__name__" := by decide) (hd : (x == ("__debug__" : Str)) = false := by decide) : PE X (.Name x pos) (tC v) :=
  fun _ _ _ H _ I h => ld_blt I hg hm hv ⟨v, H, I, r, h⟩ hn hd



def t2I (ta tb : TE) (k : Int → Int → Hp → Prop) : St → Hp → Prop := fun σ H => ta σ H fun x H1 => tb σ H1 fun y H2 => ∃ i j, x = .int i ∧ y = .int j ∧ k i j H2
def tAdd (ta tb : TE) : TE := fun σ H Q => t2I ta tb (fun i j H2 => Q (.int (i + j)) H2) σ H
def tSub (ta tb : TE) : TE := fun σ H Q => t2I ta tb (fun i j H2 => Q (.int (i - j)) H2) σ H

def tMul (ta tb : TE) : TE := fun σ H Q => t2I ta tb (fun i j H2 => (-(2 ^ 64) < i ∧ i < 2 ^ 64) ∧ Q (.int (i * j)) H2) σ H
variable {a b : Expr} {ta tb : TE} {pos : Pos}
def PC (X : Cx) (op : CmpOp) (a b : Expr) (t : TE) : Prop :=
  ∀ (pins : List (Addr × Obj)) (s : Shared) (σ : St) (H : Hp) (Q : VK), Inv X pins σ H s → t σ H Q →
    wpAny (model X.prog X.w) X.A (eval a X.env) (fun v s₁ => wpAny (model X.prog X.w) X.A (eval b X.env) (fun u s₂ => wpAny (model X.prog X.w) X.A (compareOp op v u) (EP X pins σ Q) X.xe s₂) X.xe s₁) X.xe s
def tCmp (p : Int → Int → Bool) (ta tb : TE) : TE := fun σ H Q => t2I ta tb (fun i j H2 => Q (.bl (p i j)) H2) σ H
abbrev tLt : TE → TE → TE := tCmp fun i j => decide (i < j)
abbrev tLe : TE → TE → TE := tCmp fun i j => decide (i ≤ j)
abbrev tGt : TE → TE → TE := tCmp fun i j => decide (j < i)
abbrev tGe : TE → TE → TE := tCmp fun i j => decide (j ≤ i)
abbrev tEqI : TE → TE → TE := tCmp fun i j => decide (i = j)
abbrev tNeI : TE → TE → TE := tCmp fun i j => !decide (i = j)

def tIsN (ta : TE) : TE := fun σ H Q => ta σ H fun x H1 => Q (.bl (decide (x = .non))) H1
def tNotN (ta : TE) : TE := fun σ H Q => ta σ H fun x H1 => Q (.bl (!decide (x = .non))) H1
def tB (t : TE) : TT := fun σ H Q => t σ H fun x H1 => ∃ c, x = .bl c ∧ Q c H1
theorem pt_val {e : Expr} {t : TE} (h : PE X e t) (he : ∀ whole, isTrue e X.env whole = (do let v ← whole; standAt e.pos; holding [v] (truthy v)) := by intro _; rfl) : PT X e (tB t) := by
  intro pins s σ H Q I hw
  refine isTrue_plain (thn (h pins s σ H _ I hw) fun v s1 ⟨x, H1, I1, r1, q1⟩ => ?_) (he _)
  obtain ⟨d, rfl, q⟩ := q1
  cases r1
  exact wpAny_truthy_bool ⟨H1, I1, q⟩


variable {tA tB' : TT} {rest : List Expr}
def tAnd (t u : TT) : TT := fun σ H Q => t σ H fun c H1 => if c = true then u σ H1 Q else Q false H1
def tOr (t u : TT) : TT := fun σ H Q => t σ H fun c H1 => if c = true then Q true H1 else u σ H1 Q
def tNot (t : TT) : TT := fun σ H Q => t σ H fun c H1 => Q (!c) H1
theorem pw_and1 (ha : PT X a tA) : PW X (.BoolOp .And [a] pos) tA := by
  intro wh pins s σ H Q I h
  refine isTrue_and (thn (ha pins s σ H Q I h) fun c s1 e => ?_)
  cases c with
  | true => exact isTrue_and_nil e
  | false => exact e
theorem pw_or1 (ha : PT X a tA) : PW X (.BoolOp .Or [a] pos) tA := by
  intro wh pins s σ H Q I h
  refine isTrue_or (thn (ha pins s σ H Q I h) fun c s1 e => ?_)
  cases c with
  | false => exact isTrue_or_nil e
  | true => exact e
theorem pw_and (ha : PT X a tA) (hb : PW X (.BoolOp .And (b :: rest) pos) tB') : PW X (.BoolOp .And (a :: b :: rest) pos) (tAnd tA tB') := by
  intro wh pins s σ H Q I h
  refine isTrue_and (thn (ha pins s σ H _ I h) fun c s1 ⟨H1, I1, q1⟩ => ?_)
  cases c with
  | true => exact hb wh pins s1 σ H1 Q I1 q1
  | false => exact ⟨H1, I1, q1⟩
theorem pw_or (ha : PT X a tA) (hb : PW X (.BoolOp .Or (b :: rest) pos) tB') : PW X (.BoolOp .Or (a :: b :: rest) pos) (tOr tA tB') := by
  intro wh pins s σ H Q I h
  refine isTrue_or (thn (ha pins s σ H _ I h) fun c s1 ⟨H1, I1, q1⟩ => ?_)
  cases c with
  | true => exact ⟨H1, I1, q1⟩
  | false => exact hb wh pins s1 σ H1 Q I1 q1
theorem pt_not (ha : PT X a tA) : PT X (.UnaryOp .Not a pos) (tNot tA) := by
  intro pins s σ H Q I h
  exact isTrue_not (ha pins s σ H (fun c H1 => Q (!c) H1) I h)

def tAndV (ta tb : TE) : TE := fun σ H Q => ta σ H fun x H1 => ∃ c, x = .bl c ∧ if c = true then tb σ H1 Q else Q (.bl false) H1
def tOrV (ta tb : TE) : TE := fun σ H Q => ta σ H fun x H1 => ∃ c, x = .bl c ∧ if c = true then Q (.bl true) H1 else tb σ H1 Q
def tNotV (ta : TE) : TE := fun σ H Q => ta σ H fun x H1 => ∃ c, x = .bl c ∧ Q (.bl (!c)) H1
theorem pe_one {op} {t : TE} (h : PE X a t) : PE X (.BoolOp op [a] pos) t := fun pins s σ H Q I hw => BoolOp_one (h pins s σ H Q I hw)
theorem pe_and (ha : PE X a ta) (hb : PE X (.BoolOp .And (b :: rest) pos) tb) : PE X (.BoolOp .And (a :: b :: rest) pos) (tAndV ta tb) := by
  intro pins s σ H Q I h
  refine BoolOp_and (thn (ha pins s σ H _ I h) fun v s1 ⟨x, H1, I1, r1, q1⟩ => ?_)
  obtain ⟨c, rfl, q1⟩ := q1
  cases r1
  refine wpAny_truthy_bool ?_
  cases c with
  | true => exact hb pins s1 σ H1 Q I1 q1
  | false => exact ⟨.bl false, H1, I1, rfl, q1⟩
theorem pe_not (ha : PE X a ta) : PE X (.UnaryOp .Not a pos) (tNotV ta) := by
  intro pins s σ H Q I h
  refine UnaryOp_ (thn (ha pins s σ H _ I h) fun v s1 ⟨x, H1, I1, r1, q1⟩ => ?_)
  obtain ⟨c, rfl, q1⟩ := q1
  cases r1
  exact not_of (wpAny_truthy_bool ⟨.bl (!c), H1, I1, rfl, q1⟩)

def tIf (t : TT) (ta tb : TE) : TE := fun σ H Q => t σ H fun c H1 => if c = true then ta σ H1 Q else tb σ H1 Q
theorem pe_ifExp {c : Expr} (hc : PT X c tA) (ha : PE X a ta) (hb : PE X b tb) : PE X (.IfExp c a b pos) (tIf tA ta tb) := by
  intro pins s σ H Q I h
  refine wpAny_IfExp (thn (hc pins s σ H _ I h) fun d s1 ⟨H1, I1, q1⟩ => ?_)
  cases d with
  | true => exact ha pins s1 σ H1 Q I1 q1
  | false => exact hb pins s1 σ H1 Q I1 q1
end
end L2

namespace L2
open PySem PySem.Spec PyProof.Rows


def SqL (K : PySem.W.Frag) (H : Hp) (a : Addr) (xs : List V) : Prop :=
  Rd H a (.lst xs) ∨
    ∃ (o : Obj) (its : Array Value) (n : Nat), K.lookup a = some o ∧ o.cls = .type "list" ∧ o.dict = none ∧ o.data = .seq its n ∧ its.size ≤ sizeLine ∧ Vals xs its.toList
def SqT (K : PySem.W.Frag) (H : Hp) (a : Addr) (xs : List V) : Prop :=
  Rd H a (.tup xs) ∨
    ∃ (o : Obj) (its : Array Value) (n : Nat), K.lookup a = some o ∧ o.cls = .type "tuple" ∧ o.dict = none ∧ o.data = .seq its n ∧ its.size ≤ sizeLine ∧ Vals xs its.toList
def absV : Value → Option V
  | .none => some .non
  | .bool b => some (.bl b)
  | .int i _ => some (.int i)
  | .str x _ => some (.str x)
  | .bytes b _ => some (.byt b)
  | .float b _ => some (.flt b)
  | .ref a => some (.ref a)
  | .type n => some (.ty n)
  | _ => none
theorem RelV.abs {x : V} {u : Value} (r : RelV x u) : absV u = some x := by
  cases x with
  | non => cases r; rfl
  | bl _ => cases r; rfl
  | int _ => obtain ⟨t, rfl⟩ := r; rfl
  | str _ => obtain ⟨t, rfl⟩ := r; rfl
  | byt _ => obtain ⟨t, rfl⟩ := r; rfl
  | flt _ => obtain ⟨t, rfl⟩ := r; rfl
  | ref _ => cases r; rfl
  | ty _ => cases r; rfl
theorem RelV.inj {x y : V} {u : Value} (r : RelV x u) (q : RelV y u) : x = y := Option.some.inj (r.abs.symm.trans q.abs)
theorem Vals.inj : ∀ {xs ys : List V} {us : List Value}, Vals xs us → Vals ys us → xs = ys
  | _, _, _, .nil, .nil => rfl
  | _, _, _, .cons r t, .cons r' t' => by rw [r.inj r', Vals.inj t t']
section
variable {X : Cx} {pins : List (Addr × Obj)} {σ : St} {H : Hp} {s : Shared} {a : Addr} {xs ys : List V}
theorem SqL.of {K : PySem.W.Frag} (h : H a = some (.lst xs)) : SqL K H a xs := .inl (.inl h)
theorem SqT.of {K : PySem.W.Frag} (h : H a = some (.tup xs)) : SqT K H a xs := .inl (.inl h)
theorem Inv.list (I : Inv X pins σ H s) (h : SqL X.K H a xs) : ∃ its : List Value, Vals xs its ∧ PlainL s.heap a its.toArray ∧ xs.length ≤ sizeLine := by
  rcases h with h | ⟨o, its, n, hk, hc, hd, hs, hz, r⟩
  · obtain ⟨z, its, n, r, e⟩ := h.ok I.hok
    exact ⟨its, r, ⟨_, n, e, rfl, rfl, rfl⟩, z⟩
  · refine ⟨its.toList, r, ⟨o, n, I.kIn a o hk, hc, hd, by simpa using hs⟩, ?_⟩
    have e := r.length
    simp only [Array.length_toList] at e
    omega
theorem Inv.tuple (I : Inv X pins σ H s) (h : SqT X.K H a xs) : ∃ its : List Value, Vals xs its ∧ IsTup s.heap a its.toArray ∧ xs.length ≤ sizeLine := by
  rcases h with h | ⟨o, its, n, hk, hc, _, hs, hz, r⟩
  · obtain ⟨z, its, r, p⟩ := h.ok I.hok
    exact ⟨its, r, p.tup, z⟩
  · refine ⟨its.toList, r, ⟨o, I.kIn a o hk, hc, n, by simpa using hs⟩, ?_⟩
    have e := r.length
    simp only [Array.length_toList] at e
    omega
theorem Inv.list_inj (I : Inv X pins σ H s) (h : SqL X.K H a xs) (h' : SqL X.K H a ys) : xs = ys := by
  obtain ⟨its, r, ⟨o, n, e, _, _, d⟩, _⟩ := I.list h
  obtain ⟨its', r', ⟨o', n', e', _, _, d'⟩, _⟩ := I.list h'
  rw [e] at e'; cases e'
  rw [d] at d'
  injection d' with d1 _
  have : its = its' := by simpa using congrArg Array.toList d1
  subst this
  exact r.inj r'
theorem Inv.tuple_inj (I : Inv X pins σ H s) (h : SqT X.K H a xs) (h' : SqT X.K H a ys) : xs = ys := by
  obtain ⟨its, r, ⟨o, e, _, n, d⟩, _⟩ := I.tuple h
  obtain ⟨its', r', ⟨o', e', _, n', d'⟩, _⟩ := I.tuple h'
  rw [e] at e'; cases e'
  rw [d] at d'
  injection d' with d1 _
  have : its = its' := by simpa using congrArg Array.toList d1
  subst this
  exact r.inj r'
end


abbrev Cx.wish (X : Cx) (E : Value → Shared → Prop) : Cx := { X with xe := E }

abbrev Cx.nox (X : Cx) : Cx := X.wish fun _ _ => False
theorem Cx.Ok.wish {X : Cx} (ok : X.Ok) (E : Value → Shared → Prop) : (X.wish E).Ok :=
  ⟨ok.mod, ok.kind, ok.glob, ok.blt, ok.above, ok.inj, ok.has, ok.cab, ok.hd, ok.frames, ok.stk, ok.exf, ok.bs, ok.bsz, ok.noex, ok.exfs, ok.funs, ok.frf⟩
theorem Cx.Ok.unwish {X : Cx} {E : Value → Shared → Prop} (ok : (X.wish E).Ok) : X.Ok :=
  ⟨ok.mod, ok.kind, ok.glob, ok.blt, ok.above, ok.inj, ok.has, ok.cab, ok.hd, ok.frames, ok.stk, ok.exf, ok.bs, ok.bsz, ok.noex, ok.exfs, ok.funs, ok.frf⟩
section
variable {X : Cx} {pins : List (Addr × Obj)} {σ : St} {H : Hp} {s : Shared} {E : Value → Shared → Prop}
theorem Inv.wish (I : Inv X pins σ H s) (E : Value → Shared → Prop) : Inv (X.wish E) pins σ H s := ⟨I.ok.wish E, I.os, I.bare, I.base, I.loc, I.cell, I.free, I.freeC, I.pin, I.hok, I.len⟩
theorem Inv.unwish (I : Inv (X.wish E) pins σ H s) : Inv X pins σ H s := ⟨I.ok.unwish, I.os, I.bare, I.base, I.loc, I.cell, I.free, I.freeC, I.pin, I.hok, I.len⟩
theorem SP.unwish {D : Ends} {f : Flow} {s' : Shared} (h : SP (X.wish E) pins D f s') : SP X pins D f s' := by
  cases f with
  | next => obtain ⟨σ', H', I, q⟩ := h; exact ⟨σ', H', I.unwish, q⟩
  | brk => obtain ⟨σ', H', I, q⟩ := h; exact ⟨σ', H', I.unwish, q⟩
  | cont => obtain ⟨σ', H', I, q⟩ := h; exact ⟨σ', H', I.unwish, q⟩
  | ret u => obtain ⟨v, σ', H', I, r, q⟩ := h; exact ⟨v, σ', H', I.unwish, r, q⟩
theorem PE.nox {e : Expr} {t : TE} (h : PE X.nox e t) : PE X e t := fun pins s σ H Q I hw =>
  wpAny_mono (h pins s σ H Q (I.wish _) hw) (fun _ _ ⟨v, H', I', r, q⟩ => ⟨v, H', I'.unwish, r, q⟩) fun _ _ z => False.elim z
theorem PT.nox {e : Expr} {t : TT} (h : PT X.nox e t) : PT X e t := fun pins s σ H Q I hw =>
  wpAny_mono (h pins s σ H Q (I.wish _) hw) (fun _ _ ⟨H', I', q⟩ => ⟨H', I'.unwish, q⟩) fun _ _ z => False.elim z
theorem PSs.nox {st : List Stmt} {t : TS} (h : PSs X.nox st t) : PSs X st t := fun pins s σ H D I hw =>
  wpAny_mono (h pins s σ H D (I.wish _) hw) (fun _ _ q => q.unwish) fun _ _ z => False.elim z
end


section
variable {X : Cx} {st : Stmt} {rest : List Stmt} {t u : TS} {e : Expr} {te : TE} {pos : Pos}
def tNext : TS := fun D σ H => D.nx σ H
def tSeq (t u : TS) : TS := fun D σ H => t { D with nx := u D } σ H
theorem pss_nil : PSs X [] tNext := fun _ _ σ H _ I h => wpAny_execs_nil ⟨σ, H, I, h⟩
theorem pss_cons (h1 : PS X st t) (h2 : PSs X rest u) : PSs X (st :: rest) (tSeq t u) := by
  intro pins s σ H D I h
  refine wpAny_execs_cons (thn (h1 pins s σ H { D with nx := u D } I h) fun f s1 q => ?_)
  cases f with
  | next =>
    obtain ⟨σ', H', I', q⟩ := q
    exact h2 pins s1 σ' H' D I' q
  | ret v => exact q
  | brk => exact q
  | cont => exact q
theorem pss_one (h1 : PS X st t) : PSs X [st] t := by
  intro pins s σ H D I h
  refine wpAny_execs_cons (thn (h1 pins s σ H D I h) fun f s1 q => ?_)
  cases f with
  | next => exact wpAny_execs_nil q
  | ret v => exact q
  | brk => exact q
  | cont => exact q
def tBreak : TS := fun D σ H => D.bk σ H
def tCont : TS := fun D σ H => D.ct σ H
theorem Inv.quiet {pins : List (Addr × Obj)} {σ : St} {H : Hp} {s : Shared} (I : Inv X pins σ H s) : interactive X.env = false := by simp [interactive, I.ok.kind]

def tDrop (te : TE) : TS := fun D σ H => te σ H fun _ H1 => D.nx σ H1
theorem ps_expr (he : PE X e te) (hs : swapsWith e none pos.line X.env = pure false := by rfl) : PS X (.Expr e pos) (tDrop te) := by
  intro pins s σ H D I h
  exact wpAny_Expr_any (thn (he pins s σ H _ I h) fun v s1 ⟨x, H1, I1, r1, q1⟩ => ⟨σ, H1, I1, q1⟩) I.quiet hs
def tRet (te : TE) : TS := fun D σ H => te σ H D.rt
theorem ps_ret (he : PE X e te) : PS X (.Return (some e) pos) (tRet te) := by
  intro pins s σ H D I h
  exact wpAny_Return_some (thn (he pins s σ H _ I h) fun v s1 ⟨x, H1, I1, r1, q1⟩ => ⟨x, σ, H1, I1, r1, q1⟩)
def tRetN : TS := fun D _ H => D.rt .non H
def tIfS (c : TT) (t u : TS) : TS := fun D σ H => c σ H fun b H1 => if b = true then t D σ H1 else u D σ H1
theorem ps_if {c : Expr} {a b : List Stmt} {tc : TT} (hc : PT X c tc) (ha : PSs X a t) (hb : PSs X b u) : PS X (.If c a b pos) (tIfS tc t u) := by
  intro pins s σ H D I h
  refine wpAny_If (thn (hc pins s σ H _ I h) fun d s1 ⟨H1, I1, q1⟩ => ?_)
  cases d with
  | true => exact ha pins s1 σ H1 D I1 q1
  | false => exact hb pins s1 σ H1 D I1 q1

def tNever : TS := fun _ _ _ => False
end


abbrev TG := V → St → Hp → (St → Hp → Prop) → Prop
abbrev TGs := List V → St → Hp → (St → Hp → Prop) → Prop
def PG (X : Cx) (target : Expr) (t : TG) : Prop :=
  ∀ (pins : List (Addr × Obj)) (s : Shared) (σ : St) (H : Hp) (v : V) (u : Value) (Q : St → Hp → Prop), Inv X pins σ H s → RelV v u → t v σ H Q →
    wpAny (model X.prog X.w) X.A (assign target X.env u) (fun _ s' => ∃ σ' H', Inv X pins σ' H' s' ∧ Q σ' H') X.xe s

def PGs (X : Cx) (ts : List Expr) (t : TGs) : Prop :=
  ∀ (pins : List (Addr × Obj)) (s : Shared) (σ : St) (H : Hp) (vs : List V) (us : List Value) (Q : St → Hp → Prop), Inv X pins σ H s → Vals vs us → t vs σ H Q →
    wpAny (model X.prog X.w) X.A (assignInOrder ((assignEach ts X.env).map (·.2)) us) (fun _ s' => ∃ σ' H', Inv X pins σ' H' s' ∧ Q σ' H') X.xe s

abbrev TSet := V → V → V → Hp → (Hp → Prop) → Prop
def PSet (X : Cx) (t : TSet) : Prop :=
  ∀ (pins : List (Addr × Obj)) (s : Shared) (σ : St) (H : Hp) (o i v : V) (ov iv u : Value) (Q : Hp → Prop), Inv X pins σ H s → RelV o ov → RelV i iv → RelV v u → t o i v H Q →
    wpAny (model X.prog X.w) X.A (setItem ov iv u) (fun _ s' => ∃ H', Inv X pins σ H' s' ∧ Q H') X.xe s

abbrev TIp := V → V → Hp → VK → Prop
def PIp (X : Cx) (op : Operator) (t : TIp) : Prop :=
  ∀ (pins : List (Addr × Obj)) (s : Shared) (σ : St) (H : Hp) (x y : V) (v u : Value) (Q : VK), Inv X pins σ H s → RelV x v → RelV y u → t x y H Q →
    wpAny (model X.prog X.w) X.A (inplaceOp op v u) (EP X pins σ Q) X.xe s
section
variable {X : Cx} {pos : Pos}
def gName (i : Nat) : TG := fun v σ H Q => Q (σ.set i (some v)) H
theorem pg_name {i : Nat} {x : Str} (hN : X.N.Nodup) (hi : X.N[i]? = some x) (hx : Loc X.env.scope x) (hf : X.fn x = true ∨ X.env.scope.names.lookup x = some .local := by first | exact .inl rfl | exact .inr rfl | assumption) : PG X (.Name x pos) (gName i) := by
  intro pins s σ H v u Q I r h
  exact wpAny_assign_Name (store_ok I hN hi hx r (fun s' I' => ⟨_, H, I', h⟩) hf)
def gNil : TGs := fun vs σ H Q => vs = [] ∧ Q σ H
def gCons (t : TG) (u : TGs) : TGs := fun vs σ H Q => ∃ v r, vs = v :: r ∧ t v σ H fun σ' H' => u r σ' H' Q
theorem pgs_nil : PGs X [] gNil := by
  intro pins s σ H vs us Q I r h
  obtain ⟨e, h⟩ := h
  subst e
  cases r
  exact assignInOrder_nil ⟨σ, H, I, h⟩
theorem pgs_cons {e : Expr} {es : List Expr} {t : TG} {u : TGs} (h1 : PG X e t) (h2 : PGs X es u)
    (hs : (assignEach (e :: es) X.env).map (·.2) = assign e X.env :: (assignEach es X.env).map (·.2) := by rfl) : PGs X (e :: es) (gCons t u) := by
  intro pins s σ H vs us Q I r h
  obtain ⟨v, vr, e1, h⟩ := h
  subst e1
  cases r with
  | cons r rr =>
    rw [hs]
    refine assignInOrder_cons (thn (h1 pins s σ H _ _ _ I r h) fun _ s1 ⟨σ1, H1, I1, q1⟩ => ?_)
    exact h2 pins s1 σ1 H1 _ _ Q I1 rr q1

def gTup (K : PySem.W.Frag) (n : Nat) (t : TGs) : TG := fun v σ H Q => ∃ a xs, v = .ref a ∧ SqT K H a xs ∧ xs.length = n ∧ t xs σ H Q
theorem pg_tup {es : List Expr} {k : Nat} {t : TGs} {n : Nat} (hc : X.calm = true) (h : PGs X es t)
    (hn : (assignEach es X.env).length = n := by rfl) (hst : (assignEach es X.env).findIdx? (·.1) = none := by rfl) : PG X (.Tuple es k pos) (gTup X.K n t) := by
  intro pins s σ H v u Q I r hw
  obtain ⟨a, xs, e1, hq, hl, hw⟩ := hw
  subst e1
  cases r
  obtain ⟨its, rv, ht, hz⟩ := I.tuple hq
  refine assign_Tuple_tuple (I.ok.hd hc) ht (by simp [hn, ← hl, rv.length]) hst fun h' hx => ?_
  have I1 : Inv X pins σ H { s with heap := h' } := I.kept (t' := s.toks) fun b o e => hx b o (Nat.ne_of_lt (Heap.lt_size e)) e
  exact h pins _ σ H xs _ Q I1 (by simpa using rv) hw

def gSub (to ti : TE) (t : TSet) : TG := fun v σ H Q => to σ H fun o H1 => ti σ H1 fun i H2 => t o i v H2 fun H3 => Q σ H3
theorem pg_sub {o i : Expr} {to ti : TE} {t : TSet} (ho : PE X o to) (hi : PE X i ti) (hs : PSet X t)
    (ha : ∀ v, assign (.Subscript o i pos) X.env v = (do
      let ov ← holding [v] (eval o X.env)
      let iv ← holding [v, ov] (eval i X.env)
      standAt pos
      holding [v, ov, iv] (setItem ov iv v)
      release [v, ov, iv] []) := by intro _; rfl) : PG X (.Subscript o i pos) (gSub to ti t) := by
  intro pins s σ H v u Q I r h
  rw [ha]
  refine wpAny_bind (wpAny_holding (thn (ho pins s σ H _ I h) fun ov s1 ⟨x, H1, I1, r1, q1⟩ => ?_))
  refine wpAny_bind (wpAny_holding (thn (hi pins s1 σ H1 _ I1 q1) fun iv s2 ⟨y, H2, I2, r2, q2⟩ => ?_))
  refine wpAny_bind (wpAny_standAt (wpAny_bind (wpAny_holding (thn (hs pins s2 σ H2 x y v ov iv u _ I2 r1 r2 r q2) fun _ s3 ⟨H3, I3, q3⟩ => ?_))))
  exact wpAny_release ⟨σ, H3, I3, q3⟩

def tAsg (te : TE) (g : TG) : TS := fun D σ H => te σ H fun x H1 => g x σ H1 D.nx
theorem ps_asg {tg e : Expr} {te : TE} {g : TG} (he : PE X e te) (hg : PG X tg g) (hs : swapsWithSole [tg] e pos.line X.env = pure false := by rfl) (hw : swappedStores [tg] e X.env = pure none := by rfl)
    (h1 : (assignEach [tg] X.env).map (·.2) = [assign tg X.env] := by rfl) : PS X (.Assign [tg] e pos) (tAsg te g) := by
  intro pins s σ H D I h
  refine wpAny_Assign_stores (thn (he pins s σ H _ I h) fun v s1 ⟨x, H1, I1, r1, q1⟩ => ?_) hs hw
  rw [h1]
  exact thn (hg pins s1 σ H1 x v _ I1 r1 q1) fun _ s2 q => q

theorem ps_set {i : Nat} {x : Str} {e : Expr} {te : TE} {pos' : Pos} (hN : X.N.Nodup) (hi : X.N[i]? = some x) (hx : Loc X.env.scope x) (he : PE X e te) (hs : swapsWith e (some (.Name x pos')) pos.line X.env = pure false := by rfl) (hf : X.fn x = true ∨ X.env.scope.names.lookup x = some .local := by first | exact .inl rfl | exact .inr rfl | assumption) :
    PS X (.Assign [.Name x pos'] e pos) (tAsg te (gName i)) := by
  intro pins s σ H D I h
  refine wpAny_Assign_Name (thn (he pins s σ H _ I h) fun v s1 ⟨y, H1, I1, r1, q1⟩ => ?_) hs
  exact store_ok I1 hN hi hx r1 (fun s2 I2 => ⟨_, H1, I2, q1⟩) hf

def tPar (i j : Nat) (ta : TA) : TS := fun D σ H => ta σ H fun vs H1 => ∃ v w, vs = [v, w] ∧ D.nx ((σ.set i (some v)).set j (some w)) H1
def tAug (i : Nat) (te : TE) (ti : TIp) : TS := fun D σ H => ∃ x, σ[i]? = some (some x) ∧ te σ H fun y H1 => ti x y H1 fun z H2 => D.nx (σ.set i (some z)) H2
def tAugS (to ti te : TE) (tget : V → V → Hp → VK → Prop) (tip : TIp) (tset : TSet) : TS := fun D σ H => to σ H fun o H1 => ti σ H1 fun i H2 => tget o i H2 fun x H3 => te σ H3 fun y H4 => tip x y H4 fun z H5 => tset o i z H5 fun H6 => D.nx σ H6

def PGet (X : Cx) (t : V → V → Hp → VK → Prop) : Prop :=
  ∀ (pins : List (Addr × Obj)) (s : Shared) (σ : St) (H : Hp) (o i : V) (ov iv : Value) (Q : VK), Inv X pins σ H s → RelV o ov → RelV i iv → t o i H Q →
    wpAny (model X.prog X.w) X.A (getItem ov iv) (EP X pins σ Q) X.xe s
def ipI (f : Int → Int → Int) : TIp := fun x y H Q => ∃ i j, x = .int i ∧ y = .int j ∧ Q (.int (f i j)) H
end


section
variable {X : Cx} {pos : Pos}

def tWhile (c : TT) (tb : TS) : TS := fun D σ H => ∃ W : Nat → St → Hp → Prop, (∃ m, W m σ H) ∧ ∀ m σ H, W m σ H →
  c σ H fun b H1 => if b = true then ∃ N : St → Hp → Prop, (∀ σ' H', N σ' H' → ∃ m', m' < m ∧ W m' σ' H') ∧ tb { D with nx := N, ct := N, bk := D.nx } σ H1 else D.nx σ H1
end



structure It where
  go : Nat → Hp → Prop
  yld : Nat → Hp → V → Hp → Prop
  stop : Nat → Hp → Prop

def FpOk (X : Cx) (pins : List (Addr × Obj)) (H : Hp) (b : Addr) : Prop :=
  H b = none ∧ b ≠ X.env.locals ∧ b ∉ X.fs ∧ (b ∈ X.ex ∨ X.s₀.heap.objs.size ≤ b) ∧ (∀ x c, X.env.cells.lookup x = some c → c ≠ b) ∧ ∀ p ∈ X.pn ++ pins, p.1 ≠ b
theorem Inv.fpOk {X : Cx} {pins : List (Addr × Obj)} {σ : St} {H H' : Hp} {s : Shared} {b : Addr} (I : Inv X pins σ H s) (hb : s.heap.objs.size ≤ b) (hn : H' b = none) : FpOk X pins H' b := by
  refine ⟨hn, Nat.ne_of_gt (Nat.lt_of_lt_of_le I.lt hb), I.nofs hb, .inr (Nat.le_trans I.sz hb), fun x c e z => ?_, fun p hp z => ?_⟩
  · obtain ⟨v, q⟩ := I.cell x c e
    exact absurd (Nat.lt_of_lt_of_le q.lt (by rw [z]; exact hb)) (Nat.lt_irrefl _)
  · exact absurd (Nat.lt_of_lt_of_le (Heap.lt_size (I.pin p hp).1) (by rw [z]; exact hb)) (Nat.lt_irrefl _)
structure Turn (P : Program) (w : World) (K : PySem.W.Frag) (tg : Expr) (J : It) (fp : List Addr) (it : Addr) (tn : Nat → Heap → Prop) : Prop where
  mem : it ∈ fp
  obj : ∀ i h, tn i h → ∀ b ∈ fp, ∃ o, h.get? b = some o ∧ ∀ v, o.data ≠ .cell v
  keep : ∀ i h h', tn i h → (∀ b ∈ fp, ∀ o, h.get? b = some o → h'.get? b = some o) → tn i h'
  item : ∀ (X : Cx), X.prog = P → X.w = w → X.K = K → X.calm = true → ∀ (i : Nat) (pins : List (Addr × Obj)) (s : Shared) (σ : St) (H : Hp) (E : Value → Shared → Prop), Inv X pins σ H s → (∀ b ∈ fp, FpOk X pins H b) → tn i s.heap → J.go i H →
    wpAny (model P w) X.A (pyNext (.ref it)) (fun r s1 => ∃ u, r = some u ∧
      wpAny (model P w) X.A (letOwnedTupleGo tg (.ref it) u) (fun _ s2 => ∃ x H', Inv X pins σ H' s2 ∧ RelV x u ∧ J.yld i H x H' ∧ tn (i + 1) s2.heap ∧ ∀ b ∈ fp, H' b = none) E s1) E s
  done : ∀ (X : Cx), X.prog = P → X.w = w → X.K = K → X.calm = true → ∀ (i : Nat) (pins : List (Addr × Obj)) (s : Shared) (σ : St) (H : Hp) (E : Value → Shared → Prop), Inv X pins σ H s → (∀ b ∈ fp, FpOk X pins H b) → tn i s.heap → J.stop i H →
    wpAny (model P w) X.A (pyNext (.ref it)) (fun r s1 => r = none ∧ Inv X pins σ H s1) E s
  self : ∀ (A : Around) (i : Nat) (s : Shared) (Q : Value → Shared → Prop) (E : Value → Shared → Prop), tn i s.heap → Q (.ref it) s → wpAny (model P w) A (pyIter (.ref it)) Q E s
abbrev TI := St → Hp → (It → Hp → Prop) → Prop

def PIE (X : Cx) (pins : List (Addr × Obj)) (σ : St) (tg : Expr) (R : It → Hp → Prop) (itv : Value) (s2 : Shared) : Prop :=
  ∃ (it : Addr) (fp : List Addr) (tn : Nat → Heap → Prop) (J : It) (H' : Hp), itv = .ref it ∧ Inv X pins σ H' s2 ∧ Turn X.prog X.w X.K tg J fp it tn ∧ tn 0 s2.heap ∧ (∀ b ∈ fp, FpOk X pins H' b) ∧ R J H'
def PI (X : Cx) (tg iter : Expr) (wi : TI) : Prop :=
  ∀ (pins : List (Addr × Obj)) (s : Shared) (σ : St) (H : Hp) (R : It → Hp → Prop), Inv X pins σ H s → wi σ H R →
    wpAny (model X.prog X.w) X.A (eval iter X.env) (fun v s1 => wpAny (model X.prog X.w) X.A (pyIter v) (PIE X pins σ tg R) X.xe s1) X.xe s


theorem go_of {M : Model} {A : Around} {E : Value → Shared → Prop} {s : Shared} {tg : Expr} {it : Addr} {u : Value} {o : Obj} {n : String} {vs : Array Value} {Q : Unit → Shared → Prop} (ho : s.heap.get? it = some o) (hc : o.cls = .type n) (hd : o.data = .fields vs)
    (hn : ["enumerate", "zip", "dict_itemiterator", "dict_reverseitemiterator", "odict_iterator", "itertools.zip_longest", "itertools.pairwise"].contains n = false) (hQ : Q () s) : wpAny M A (letOwnedTupleGo tg (.ref it) u) Q E s := by
  unfold letOwnedTupleGo
  cases tg <;> first
    | exact wpAny_pure hQ
    | (cases u <;> first
        | exact wpAny_pure hQ
        | (refine wpAny_bind (wpAny_load ho ?_)
           rw [hc, hd]
           show wpAny M A (if (["enumerate", "zip", "dict_itemiterator", "dict_reverseitemiterator", "odict_iterator", "itertools.zip_longest", "itertools.pairwise"].contains n && vs[0]? == some (rawInt _)) = true then _ else _) Q E s
           rw [if_neg (by intro h; rw [hn, Bool.false_and] at h; cases h)]
           exact wpAny_pure hQ))


def Itl (K : PySem.W.Frag) (a : Addr) : It :=
  ⟨fun i H => ∃ xs x, SqL K H a xs ∧ xs[i]? = some x, fun i H x H' => H' = H ∧ ∀ xs, SqL K H a xs → xs[i]? = some x, fun i H => ∃ xs, SqL K H a xs ∧ xs.length ≤ i⟩
def Itt (K : PySem.W.Frag) (a : Addr) : It :=
  ⟨fun i H => ∃ xs x, SqT K H a xs ∧ xs[i]? = some x, fun i H x H' => H' = H ∧ ∀ xs, SqT K H a xs → xs[i]? = some x, fun i H => ∃ xs, SqT K H a xs ∧ xs.length ≤ i⟩

def Itr (lo : Int) (n : Nat) : It := ⟨fun i _ => i < n, fun i H x H' => H' = H ∧ x = .int (lo + i), fun i _ => n ≤ i⟩
theorem turn_list {P : Program} {w : World} {K : PySem.W.Frag} {tg : Expr} (a it : Addr) : Turn P w K tg (Itl K a) [it] it (fun i h => h.IsListIter it a i) where
  mem := by simp
  obj := fun i h st b hb => by
    have e : b = it := by simpa using hb
    subst e
    obtain ⟨o, e, c, d⟩ := st
    exact ⟨o, e, fun v z => by rw [d] at z; cases z⟩
  keep := fun i h h' st k => st.at fun o e => k it (by simp) o e
  item := by
    intro X hP hw hK hc i pins s σ H E I hf st hg
    subst hP hw hK
    obtain ⟨xs, x, hq, hx⟩ := hg
    obtain ⟨its, rv, p, hz⟩ := I.list hq
    obtain ⟨u, hu, ru⟩ := rv.get hx
    obtain ⟨f0, f1, f2, f3, f4, f5⟩ := hf it (by simp)
    refine wpAny_pyNext_list_item st p.isList (x := u) (by simpa using hu) fun h' st' sb => ?_
    have I1 : Inv X pins σ H { s with heap := h' } := I.turned (t' := s.toks) (fun b o hb e => (sb.2 b hb).trans e) f0 f1 f3 f4 f5
    obtain ⟨o, e, c, d⟩ := id st'
    exact ⟨u, rfl, go_of (s := { s with heap := h' }) e c d (by decide) ⟨x, H, I1, ru, ⟨rfl, fun ys hy => by rw [I.list_inj hy hq]; exact hx⟩, st', fun b hb => (hf b hb).1⟩⟩
  done := by
    intro X hP hw hK hc i pins s σ H E I hf st hg
    subst hP hw hK
    obtain ⟨xs, hq, hx⟩ := hg
    obtain ⟨its, rv, p, hz⟩ := I.list hq
    obtain ⟨f0, f1, f2, f3, f4, f5⟩ := hf it (by simp)
    have hl := rv.length
    exact wpAny_pyNext_list_end (I.ok.hd hc) st p.isList (by simp; omega) fun h' eb => ⟨rfl, I.turned (t' := s.toks) (fun b o hb e => eb b o hb e) f0 f1 f3 f4 f5⟩
  self := fun _ _ _ _ _ st h => wpAny_pyIter_listiter st h
theorem turn_range {P : Program} {w : World} {K : PySem.W.Frag} {tg : Expr} (it : Addr) (lo : Int) (n : Nat) : Turn P w K tg (Itr lo n) [it] it (fun i h => IsRangeIter h it (lo + (i : Nat) * 1) ((n : Int) - (i : Nat)) 1) where
  mem := by simp
  obj := fun i h st b hb => by
    have e : b = it := by simpa using hb
    subst e
    exact ⟨_, st, fun v z => by
      have z' : Data.fields _ = Data.cell v := z
      cases z'⟩
  keep := fun i h h' st k => k it (by simp) _ st
  item := by
    intro X hP hw hK hc i pins s σ H E I hf st hg
    subst hP hw hK
    obtain ⟨f0, f1, f2, f3, f4, f5⟩ := hf it (by simp)
    have W := Walks.range (prog := X.prog) (w := X.w) (I.ok.hd hc) it lo 1 n
    refine W.item i s _ _ hg st fun v h' tk hv st' kk => ?_
    obtain ⟨t, rfl⟩ := hv
    have I1 : Inv X pins σ H { s with heap := h', toks := tk } := I.turned (fun b o hb e => kk b o (by simpa using hb) e) f0 f1 f3 f4 f5
    refine ⟨_, rfl, go_of (s := { s with heap := h', toks := tk }) (n := "range_iterator") st' rfl rfl (by decide) ⟨.int (lo + i), H, I1, ⟨t, ?_⟩, ⟨rfl, rfl⟩, st', fun b hb => (hf b hb).1⟩⟩
    rw [Int.mul_one]
  done := by
    intro X hP hw hK hc i pins s σ H E I hf st hg
    subst hP hw hK
    obtain ⟨f0, f1, f2, f3, f4, f5⟩ := hf it (by simp)
    exact wpAny_pyNext_range_end (I.ok.hd hc) st (by have : n ≤ i := hg; omega) fun h' eb => ⟨rfl, I.turned (t' := s.toks) (fun b o hb e => eb b o hb e) f0 f1 f3 f4 f5⟩
  self := fun _ _ _ _ _ st h => wpAny_pyIter_rangeiter st h
end L2

namespace L2
open PySem PySem.Spec PyProof.Rows
section
variable {X : Cx} {tg : Expr}
def iList (K : PySem.W.Frag) (tl : TE) : TI := fun σ H R => tl σ H fun x H1 => ∃ a, x = .ref a ∧ (∃ xs, SqL K H1 a xs) ∧ R (Itl K a) H1
def iTup (K : PySem.W.Frag) (tl : TE) : TI := fun σ H R => tl σ H fun x H1 => ∃ a, x = .ref a ∧ (∃ xs, SqT K H1 a xs) ∧ R (Itt K a) H1
theorem pi_list {l : Expr} {tl : TE} (hl : PE X l tl) : PI X tg l (iList X.K tl) := by
  intro pins s σ H R I h
  refine thn (hl pins s σ H _ I h) fun v s1 ⟨x, H1, I1, r1, q1⟩ => ?_
  obtain ⟨a, e, ⟨xs, hq⟩, q⟩ := q1
  subst e
  cases r1
  obtain ⟨its, rv, p, hz⟩ := I1.list hq
  refine wpAny_pyIter_list p.isList ?_
  refine ⟨s1.heap.objs.size, [s1.heap.objs.size], _, _, H1, rfl, I1.kept (t' := s1.toks) fun b o e => Heap.get?_push_of_some _ e, turn_list a _, ⟨_, Heap.get?_push_size _ rfl, rfl, rfl⟩, fun b hb => ?_, q⟩
  have e : b = s1.heap.objs.size := by simpa using hb
  subst e
  exact I1.fpOk (Nat.le_refl _) (I1.hok.fresh (Nat.le_refl _))
theorem range_it {pins : List (Addr × Obj)} {σ : St} {H : Hp} {s : Shared} {R : It → Hp → Prop} {E : Value → Shared → Prop} {lo hi : Int} {t u v : Tok} {tk : Nat} (I : Inv X pins σ H s) (h1 : -(2 ^ 62) ≤ lo) (h2 : lo < 2 ^ 62) (h3 : -(2 ^ 62) ≤ hi) (h4 : hi < 2 ^ 62)
    (q : R (Itr lo (hi - lo).toNat) H) : wpAny (model X.prog X.w) X.A (pyIter (.ref s.heap.objs.size)) (PIE X pins σ tg R) E { s with heap := s.heap.push { cls := .type "range", data := .fields #[.int lo t, .int hi u, .int 1 v] }, toks := tk } := by
  refine wpAny_pyIter_range (IsRange.new ..) (small_one h1 h2 h3 h4) ?_
  have I1 : Inv X pins σ H { s with heap := s.heap.push { cls := .type "range", data := .fields #[.int lo t, .int hi u, .int 1 v] }, toks := tk } := I.kept fun b o e => Heap.get?_push_of_some _ e
  refine ⟨(s.heap.push { cls := .type "range", data := .fields #[.int lo t, .int hi u, .int 1 v] }).objs.size, [(s.heap.push { cls := .type "range", data := .fields #[.int lo t, .int hi u, .int 1 v] }).objs.size], _, _, H, rfl,
    I1.kept (t' := tk) fun b o e => Heap.get?_push_of_some _ e, turn_range _ lo (hi - lo).toNat, ?_, fun b hb => ?_, q⟩
  · have e1 : lo + ((0 : Nat) : Int) * 1 = lo := by simp
    have e2 : (((hi - lo).toNat : Nat) : Int) - ((0 : Nat) : Int) = Builtin.Range.rangeSize lo hi 1 := by rw [rangeSize_one]; split <;> omega
    show IsRangeIter _ _ (lo + ((0 : Nat) : Int) * 1) ((((hi - lo).toNat : Nat) : Int) - ((0 : Nat) : Int)) 1
    rw [e1, e2]
    exact Heap.get?_push_size _ rfl
  · have e : b = (s.heap.push { cls := .type "range", data := .fields #[.int lo t, .int hi u, .int 1 v] }).objs.size := by simpa using hb
    subst e
    exact I1.fpOk (Nat.le_refl _) (I1.hok.fresh (Nat.le_refl _))
def iRng1 (ta : TA) : TI := fun σ H R => ta σ H fun vs H1 => ∃ j : Int, vs = [.int j] ∧ -(2 ^ 62) ≤ j ∧ j < 2 ^ 62 ∧ R (Itr 0 j.toNat) H1
def iRng2 (ta : TA) : TI := fun σ H R => ta σ H fun vs H1 => ∃ i j : Int, vs = [.int i, .int j] ∧ (-(2 ^ 62) ≤ i ∧ i < 2 ^ 62 ∧ -(2 ^ 62) ≤ j ∧ j < 2 ^ 62) ∧ R (Itr i (j - i).toNat) H1
theorem pi_range1 {a : Expr} {ta : TA} {p pos : Pos} (hg : Gl X "range") (hm : X.mg "range" = none) (ha : PA X [a] ta) (hs : starEach [a] X.env = [(false, eval a X.env)] := by rfl) : PI X tg (.Call (.Name "range" p) [a] [] pos) (iRng1 ta) := by
  intro pins s σ H R I h
  refine Call_ (ld_blt I hg hm boot_range (PyProof.Rows.callWith_type1 (thn (ha pos pins s σ H _ I h) fun us s1 ⟨vs, H1, I1, r1, q1⟩ => ?_) hs rfl))
  obtain ⟨j, e, q1, q2, q⟩ := q1
  subst e
  cases r1 with
  | cons r rr =>
    cases rr
    obtain ⟨t, rfl⟩ := r
    exact call_range_1 (range_it I1 (by omega) (by omega) q1 q2 (by simpa using q))
def tFor (wi : TI) (g : TG) (tb : TS) : TS := fun D σ H => wi σ H fun J H1 => ∃ W : Nat → Nat → St → Hp → Prop, (∃ m, W 0 m σ H1) ∧ ∀ i m σ H, W i m σ H →
  (J.stop i H ∧ D.nx σ H) ∨ (J.go i H ∧ ∃ N : St → Hp → Prop, (∀ σ' H', N σ' H' → ∃ m', m' < m ∧ W (i + 1) m' σ' H') ∧ ∀ x H', J.yld i H x H' → g x σ H' fun σ2 H2 => tb { D with nx := N, ct := N, bk := D.nx } σ2 H2)

def pinsAt (fp : List Addr) (h : Heap) : List (Addr × Obj) := fp.filterMap fun b => (h.get? b).map fun o => (b, o)
theorem mem_pinsAt {fp : List Addr} {h : Heap} {b : Addr} {o : Obj} (hb : b ∈ fp) (e : h.get? b = some o) : (b, o) ∈ pinsAt fp h := List.mem_filterMap.mpr ⟨b, hb, by rw [e]; rfl⟩
theorem of_pinsAt {fp : List Addr} {h : Heap} {p : Addr × Obj} (hp : p ∈ pinsAt fp h) : p.1 ∈ fp ∧ h.get? p.1 = some p.2 := by
  obtain ⟨b, hb, e⟩ := List.mem_filterMap.mp hp
  cases q : h.get? b with
  | none => rw [q] at e; cases e
  | some o =>
    rw [q] at e
    have e' : (b, o) = p := Option.some.inj e
    subst e'
    exact ⟨hb, q⟩
theorem Inv.pinned {pins : List (Addr × Obj)} {σ : St} {H : Hp} {s : Shared} {fp : List Addr} (I : Inv X pins σ H s) (hf : ∀ b ∈ fp, FpOk X pins H b) (ho : ∀ b ∈ fp, ∃ o, s.heap.get? b = some o ∧ ∀ v, o.data ≠ .cell v) : Inv X (pins ++ pinsAt fp s.heap) σ H s :=
  I.pins_of fun p hp => (List.mem_append.mp hp).elim (fun z => I.pin p (List.mem_append_right _ z)) fun z => by
    obtain ⟨hb, e⟩ := of_pinsAt z
    obtain ⟨f0, f1, f2, _⟩ := hf p.1 hb
    obtain ⟨o, e', d⟩ := ho p.1 hb
    rw [e] at e'; cases e'
    exact ⟨e, f0, f1, f2, d⟩
theorem Inv.unpinned {pins pl : List (Addr × Obj)} {σ : St} {H : Hp} {s : Shared} (I : Inv X (pins ++ pl) σ H s) : Inv X pins σ H s := I.pins_of fun p hp => I.pin p (List.mem_append_right _ (List.mem_append_left _ hp))
theorem ps_for {iter : Expr} {body : List Stmt} {wi : TI} {g : TG} {tb : TS} {pos : Pos} (hp : PassesOwn (model X.prog X.w) X.A X.env X.xe) (hc : X.calm = true) (hi : PI X tg iter wi) (hg : PG X tg g) (hb : PSs X body tb)
    (hs : ∀ x, foldedSetIterable iter X.env x = pure x := by intro _; rfl) : PS X (.For tg iter body [] pos) (tFor wi g tb) := by
  intro pins s σ H D I h
  refine wpAny_For (thn (hi pins s σ H _ I h) fun v s1 h1 => thn h1 fun itv s2 h2 => ?_) hs
  obtain ⟨it, fp, tn, J, H2, e, I2, T, st2, f2, W, ⟨m0, w0⟩, turn⟩ := h2
  subst e
  have stat : ∀ {H' : Hp}, (∀ b ∈ fp, H' b = none) → ∀ b ∈ fp, FpOk X pins H' b := fun hn b hb => ⟨hn b hb, (f2 b hb).2⟩
  refine codeAny_forLoop_any (fun n s' => ∃ i σ' H', Inv X pins σ' H' s' ∧ tn i s'.heap ∧ (∀ b ∈ fp, H' b = none) ∧ W i n σ' H') ?_ m0 ⟨0, σ, H2, I2, st2, fun b hb => (f2 b hb).1, w0⟩
  rintro n s3 ⟨i, σ3, H3, I3, st3, fr3, w3⟩
  rcases turn i n σ3 H3 w3 with ⟨stop, qn⟩ | ⟨go, N, hN, step⟩
  · refine wpAny_passesOwn hp (thn (T.done X rfl rfl rfl hc i pins s3 σ3 H3 X.xe I3 (stat fr3) st3 stop) fun r s4 ⟨hr, I4⟩ => ?_)
    subst hr
    exact wpAny_execs_nil ⟨σ3, H3, I4, qn⟩
  · refine wpAny_passesOwn hp (thn (T.item X rfl rfl rfl hc i pins s3 σ3 H3 X.xe I3 (stat fr3) st3 go) fun r s4 ⟨u, hr, h4⟩ => ?_)
    subst hr
    refine wpAny_passesOwn hp (thn h4 fun _ s5 ⟨x, H5, I5, r5, y5, st5, fr5⟩ => ?_)
    have I5' := I5.pinned (stat fr5) (T.obj _ _ st5)
    refine wpAny_passesOwn hp (thn (hg _ s5 σ3 H5 x u _ I5' r5 (step x H5 y5)) fun _ s6 ⟨σ6, H6, I6, q6⟩ => ?_)
    refine wpAny_passesOwn hp (thn (hb _ s6 σ6 H6 _ I6 q6) fun f s7 q7 => ?_)
    have again : ∀ {σ7 : St} {H7 : Hp}, Inv X (pins ++ pinsAt fp s5.heap) σ7 H7 s7 → N σ7 H7 → ∃ m, m < n ∧ ∃ i σ' H', Inv X pins σ' H' s7 ∧ tn i s7.heap ∧ (∀ b ∈ fp, H' b = none) ∧ W i m σ' H' := fun {σ7 H7} I7 n7 => by
      obtain ⟨m', hm, w7⟩ := hN σ7 H7 n7
      refine ⟨m', hm, i + 1, σ7, H7, I7.unpinned, T.keep _ _ _ st5 fun b hb o e => (I7.pin (b, o) (List.mem_append_right _ (List.mem_append_right _ (mem_pinsAt hb e)))).1, fun b hb => ?_, w7⟩
      obtain ⟨o, e, d⟩ := T.obj _ _ st5 b hb
      exact (I7.pin (b, o) (List.mem_append_right _ (List.mem_append_right _ (mem_pinsAt hb e)))).2.1
    cases f with
    | next => obtain ⟨σ7, H7, I7, n7⟩ := q7; exact again I7 n7
    | cont => obtain ⟨σ7, H7, I7, n7⟩ := q7; exact again I7 n7
    | brk => obtain ⟨σ7, H7, I7, q7⟩ := q7; exact ⟨σ7, H7, I7.unpinned, q7⟩
    | ret v => obtain ⟨x7, σ7, H7, I7, r7, q7⟩ := q7; exact ⟨x7, σ7, H7, I7.unpinned, r7, q7⟩
end



theorem for_list {K : PySem.W.Frag} {a : Addr} {xs : List V} {g : TG} {tb : TS} {D : Ends} {σ : St} {H : Hp} (Pv : Nat → St → Hp → Prop) (h0 : Pv 0 σ H) (hl : ∀ i σ H, i ≤ xs.length → Pv i σ H → SqL K H a xs)
    (hs : ∀ i x σ H, xs[i]? = some x → Pv i σ H → g x σ H fun σ2 H2 => tb { D with nx := Pv (i + 1), ct := Pv (i + 1), bk := D.nx } σ2 H2) (hd : ∀ σ H, Pv xs.length σ H → D.nx σ H) :
    ∃ W : Nat → Nat → St → Hp → Prop, (∃ m, W 0 m σ H) ∧ ∀ i m σ H, W i m σ H →
      ((Itl K a).stop i H ∧ D.nx σ H) ∨ ((Itl K a).go i H ∧ ∃ N : St → Hp → Prop, (∀ σ' H', N σ' H' → ∃ m', m' < m ∧ W (i + 1) m' σ' H') ∧ ∀ x H', (Itl K a).yld i H x H' → g x σ H' fun σ2 H2 => tb { D with nx := N, ct := N, bk := D.nx } σ2 H2) := by
  refine ⟨fun i m σ H => m = xs.length - i ∧ i ≤ xs.length ∧ Pv i σ H, ⟨xs.length, by simp, Nat.zero_le _, h0⟩, ?_⟩
  rintro i m σ H ⟨rfl, hi, p⟩
  have q := hl i σ H hi p
  by_cases hlt : i < xs.length
  · refine .inr ⟨⟨xs, xs[i], q, by simp [hlt]⟩, Pv (i + 1), fun σ' H' p' => ⟨xs.length - (i + 1), by omega, rfl, hlt, p'⟩, fun x H' y => ?_⟩
    obtain ⟨e, y⟩ := y
    subst e
    exact hs i x σ _ (y xs q) p
  · have e : i = xs.length := by omega
    subst e
    exact .inl ⟨⟨xs, q, Nat.le_refl _⟩, hd σ H p⟩
theorem for_range {lo : Int} {n : Nat} {g : TG} {tb : TS} {D : Ends} {σ : St} {H : Hp} (Pv : Nat → St → Hp → Prop) (h0 : Pv 0 σ H)
    (hs : ∀ i σ H, i < n → Pv i σ H → g (.int (lo + i)) σ H fun σ2 H2 => tb { D with nx := Pv (i + 1), ct := Pv (i + 1), bk := D.nx } σ2 H2) (hd : ∀ σ H, Pv n σ H → D.nx σ H) :
    ∃ W : Nat → Nat → St → Hp → Prop, (∃ m, W 0 m σ H) ∧ ∀ i m σ H, W i m σ H →
      ((Itr lo n).stop i H ∧ D.nx σ H) ∨ ((Itr lo n).go i H ∧ ∃ N : St → Hp → Prop, (∀ σ' H', N σ' H' → ∃ m', m' < m ∧ W (i + 1) m' σ' H') ∧ ∀ x H', (Itr lo n).yld i H x H' → g x σ H' fun σ2 H2 => tb { D with nx := N, ct := N, bk := D.nx } σ2 H2) := by
  refine ⟨fun i m σ H => m = n - i ∧ i ≤ n ∧ Pv i σ H, ⟨n, by simp, Nat.zero_le _, h0⟩, ?_⟩
  rintro i m σ H ⟨rfl, hi, p⟩
  by_cases hlt : i < n
  · refine .inr ⟨hlt, Pv (i + 1), fun σ' H' p' => ⟨n - (i + 1), by omega, rfl, hlt, p'⟩, fun x H' y => ?_⟩
    obtain ⟨e, y⟩ := y
    subst e y
    exact hs i σ _ hlt p
  · have e : i = n := by omega
    subst e
    exact .inl ⟨Nat.le_refl _, hd σ H p⟩

end L2

namespace L2
open PySem PySem.Spec PyProof.Rows

abbrev R2 := V → V → Hp → VK → Prop

def OpR (X : Cx) (f : Value → Value → Sem Value) (r : R2) : Prop :=
  ∀ (pins : List (Addr × Obj)) (s : Shared) (σ : St) (H : Hp) (x y : V) (v u : Value) (Q : VK), Inv X pins σ H s → RelV x v → RelV y u → r x y H Q →
    wpAny (model X.prog X.w) X.A (f v u) (EP X pins σ Q) X.xe s

def UnR (X : Cx) (f : Value → Sem Value) (r : V → Hp → VK → Prop) : Prop :=
  ∀ (pins : List (Addr × Obj)) (s : Shared) (σ : St) (H : Hp) (x : V) (v : Value) (Q : VK), Inv X pins σ H s → RelV x v → r x H Q →
    wpAny (model X.prog X.w) X.A (f v) (EP X pins σ Q) X.xe s

def CallR (X : Cx) (f : Value) (r : List V → Hp → VK → Prop) : Prop :=
  ∀ (pins : List (Addr × Obj)) (s : Shared) (σ : St) (H : Hp) (xs : List V) (us : List Value) (Q : VK), Inv X pins σ H s → Vals xs us → r xs H Q →
    wpAny (model X.prog X.w) X.A (call f us) (EP X pins σ Q) X.xe s

def TruR (X : Cx) (r : V → Hp → (Bool → Hp → Prop) → Prop) : Prop :=
  ∀ (pins : List (Addr × Obj)) (s : Shared) (σ : St) (H : Hp) (x : V) (v : Value) (Q : Bool → Hp → Prop), Inv X pins σ H s → RelV x v → r x H Q →
    wpAny (model X.prog X.w) X.A (truthy v) (TP X pins σ Q) X.xe s

def tOp (r : R2) (ta tb : TE) : TE := fun σ H Q => ta σ H fun x H1 => tb σ H1 fun y H2 => r x y H2 Q
def tUn (r : V → Hp → VK → Prop) (ta : TE) : TE := fun σ H Q => ta σ H fun x H1 => r x H1 Q

def rI (C : Int → Int → Prop) (g : Int → Int → V) : R2 := fun x y H Q => ∃ i j, x = .int i ∧ y = .int j ∧ C i j ∧ Q (g i j) H
def rI0 (g : Int → Int → V) : R2 := fun x y H Q => ∃ i j, x = .int i ∧ y = .int j ∧ Q (g i j) H
def rU (g : Int → V) : V → Hp → VK → Prop := fun x H Q => ∃ i, x = .int i ∧ Q (g i) H

section
variable {X : Cx} {a b c : Expr} {ta tb tc : TE} {pos : Pos}

theorem binT (ha : PE X a ta) (hb : PE X b tb) {pins : List (Addr × Obj)} {s : Shared} {σ : St} {H : Hp} {R : V → V → Hp → Prop} (I : Inv X pins σ H s)
    (h : ta σ H fun x H1 => tb σ H1 fun y H2 => R x y H2) {Q : Value → Shared → Prop} {f : Value → Value → Sem Value}
    (hf : ∀ v u s2 x y H2, Inv X pins σ H2 s2 → RelV x v → RelV y u → R x y H2 → wpAny (model X.prog X.w) X.A (f v u) Q X.xe s2) :
    wpAny (model X.prog X.w) X.A (eval a X.env) (fun v s₁ => wpAny (model X.prog X.w) X.A (eval b X.env) (fun u s₂ => wpAny (model X.prog X.w) X.A (f v u) Q X.xe s₂) X.xe s₁) X.xe s := by
  refine thn (ha pins s σ H _ I h) fun v s1 ⟨x, H1, I1, r1, q1⟩ => ?_
  refine thn (hb pins s1 σ H1 _ I1 q1) fun u s2 ⟨y, H2, I2, r2, q2⟩ => ?_
  exact hf v u s2 x y H2 I2 r1 r2 q2

theorem pe_op {op : Operator} {r : R2} (ho : OpR X (binaryOp op) r) (ha : PE X a ta) (hb : PE X b tb) : PE X (.BinOp a op b pos) (tOp r ta tb) := by
  intro pins s σ H Q I h
  exact wpAny_BinOp (binT ha hb I h fun v u s2 x y H2 I2 rx ry q => ho pins s2 σ H2 x y v u Q I2 rx ry q)
theorem pe_un {op : UnaryOp} {r : V → Hp → VK → Prop} (ho : UnR X (unaryOp op) r) (ha : PE X a ta) : PE X (.UnaryOp op a pos) (tUn r ta) := by
  intro pins s σ H Q I h
  exact UnaryOp_ (thn (ha pins s σ H _ I h) fun v s1 ⟨x, H1, I1, r1, q1⟩ => ho pins s1 σ H1 x v Q I1 r1 q1)

theorem opI {f : Value → Value → Sem Value} {C : Int → Int → Prop} {g : Int → Int → Int}
    (rule : ∀ (i j : Int) (t u : Tok) (s : Shared) (Q : Value → Shared → Prop) (E : Value → Shared → Prop), C i j → Q (.int (g i j) s.toks) { s with toks := s.toks + 1 } → wpAny (model X.prog X.w) X.A (f (.int i t) (.int j u)) Q E s) :
    OpR X f (rI C fun i j => .int (g i j)) := by
  intro pins s σ H x y v u Q I rx ry h
  obtain ⟨i, j, rfl, rfl, hc, q⟩ := h
  obtain ⟨t, rfl⟩ := rx
  obtain ⟨t', rfl⟩ := ry
  exact rule i j t t' s _ _ hc ⟨.int (g i j), H, I.tok _, ⟨_, rfl⟩, q⟩
theorem opI0 {f : Value → Value → Sem Value} {g : Int → Int → Int}
    (rule : ∀ (i j : Int) (t u : Tok) (s : Shared) (Q : Value → Shared → Prop) (E : Value → Shared → Prop), Q (.int (g i j) s.toks) { s with toks := s.toks + 1 } → wpAny (model X.prog X.w) X.A (f (.int i t) (.int j u)) Q E s) :
    OpR X f (rI0 fun i j => .int (g i j)) := by
  intro pins s σ H x y v u Q I rx ry h
  obtain ⟨i, j, rfl, rfl, q⟩ := h
  obtain ⟨t, rfl⟩ := rx
  obtain ⟨t', rfl⟩ := ry
  exact rule i j t t' s _ _ ⟨.int (g i j), H, I.tok _, ⟨_, rfl⟩, q⟩
theorem opB0 {f : Value → Value → Sem Value} {g : Int → Int → Bool}
    (rule : ∀ (i j : Int) (t u : Tok) (s : Shared) (Q : Value → Shared → Prop) (E : Value → Shared → Prop), Q (.bool (g i j)) s → wpAny (model X.prog X.w) X.A (f (.int i t) (.int j u)) Q E s) :
    OpR X f (rI0 fun i j => .bl (g i j)) := by
  intro pins s σ H x y v u Q I rx ry h
  obtain ⟨i, j, rfl, rfl, q⟩ := h
  obtain ⟨t, rfl⟩ := rx
  obtain ⟨t', rfl⟩ := ry
  exact rule i j t t' s _ _ ⟨.bl (g i j), H, I, rfl, q⟩

def CDiv (i j : Int) : Prop := 0 < j ∧ j < 1073741824
def CDivN (i j : Int) : Prop := j ≠ 0 ∧ j.natAbs < 1073741824
def CPow (i j : Int) : Prop := 0 ≤ j ∧ j ≤ 1000000 ∧ i.natAbs < 2 ^ 64
def CMul (i j : Int) : Prop := (-(2 ^ 64) < i ∧ i < 2 ^ 64) ∨ (-(2 ^ 64) < j ∧ j < 2 ^ 64)
theorem CMul.ok {i j : Int} (h : CMul i j) : IntMulOk i j := by
  rcases h with ⟨h1, h2⟩ | ⟨h1, h2⟩
  · exact .of_left (intBits_le_64 h1 h2)
  · exact .of_right (intBits_le_64 h1 h2)
theorem op_add : OpR X (binaryOp .Add) (rI0 fun i j => .int (i + j)) := opI0 fun _ _ _ _ _ _ _ q => add_int q
theorem op_sub : OpR X (binaryOp .Sub) (rI0 fun i j => .int (i - j)) := opI0 fun _ _ _ _ _ _ _ q => sub_int q
theorem op_fdiv : OpR X (binaryOp .FloorDiv) (rI CDiv fun i j => .int (i / j)) := opI fun i j _ _ _ _ _ hc q => by
  have h1 : (0 : Int) < j := hc.1
  have h2 : j < 1073741824 := hc.2
  exact floordiv_int (by omega) (by rw [Int.fdiv_eq_ediv_of_nonneg i (by omega)]; exact q) (.inl (PyProof.noPylong_small (by omega)))
theorem op_mod : OpR X (binaryOp .Mod) (rI (fun _ j => 0 < j) fun i j => .int (i % j)) := opI fun i j _ _ _ _ _ hc q => by
  have h1 : (0 : Int) < j := hc
  exact mod_int' (by omega) (by rw [Int.fmod_eq_emod_of_nonneg i (by omega)]; exact q)
theorem op_pow : OpR X (binaryOp .Pow) (rI CPow fun i j => .int (i ^ j.toNat)) := opI fun _ _ _ _ _ _ _ hc q => pow_int_small hc.1 hc.2.1 hc.2.2 q
theorem unI {f : Value → Sem Value} {g : Int → Int}
    (rule : ∀ (i : Int) (t : Tok) (s : Shared) (Q : Value → Shared → Prop) (E : Value → Shared → Prop), Q (.int (g i) s.toks) { s with toks := s.toks + 1 } → wpAny (model X.prog X.w) X.A (f (.int i t)) Q E s) :
    UnR X f (rU fun i => .int (g i)) := by
  intro pins s σ H x v Q I rx h
  obtain ⟨i, rfl, q⟩ := h
  obtain ⟨t, rfl⟩ := rx
  exact rule i t s _ _ ⟨.int (g i), H, I.tok _, ⟨_, rfl⟩, q⟩
theorem un_neg : UnR X (unaryOp .USub) (rU fun i => .int (-i)) := unI fun _ _ _ _ _ q => neg_int q
end



def scal : V → V → Bool
  | .non, .non => true | .non, .int _ => true | .int _, .non => true | .non, .bl _ => true | .bl _, .non => true | .non, .str _ => true | .str _, .non => true
  | .int _, .int _ => true | .bl _, .bl _ => true | .str _, .str _ => true | .byt _, .byt _ => true
  | .int _, .str _ => true | .str _, .int _ => true | .bl _, .str _ => true | .str _, .bl _ => true
  | _, _ => false
def rEq : R2 := fun x y H Q => scal x y = true ∧ Q (.bl (decide (x = y))) H
def rNe : R2 := fun x y H Q => scal x y = true ∧ Q (.bl (!decide (x = y))) H

theorem dec_int {i j : Int} : decide (V.int i = V.int j) = (i == j) := by
  rw [Bool.eq_iff_iff]
  simp
theorem dec_bl {i j : Bool} : decide (V.bl i = V.bl j) = (i == j) := by
  rw [Bool.eq_iff_iff]
  simp
theorem dec_str {i j : Str} : decide (V.str i = V.str j) = (i == j) := by
  rw [Bool.eq_iff_iff]
  simp
theorem dec_byt {i j : Array UInt8} : decide (V.byt i = V.byt j) = (i.toList == j.toList) := by
  rw [Bool.eq_iff_iff]
  cases i
  cases j
  simp

section
variable {X : Cx} {a b c : Expr} {ta tb tc : TE} {pos : Pos}
theorem fin_bl {pins : List (Addr × Obj)} {σ : St} {H : Hp} {s : Shared} {Q : VK} {k k' : Bool} (I : Inv X pins σ H s) (q : Q (.bl k) H) (e : k = k') : EP X pins σ Q (.bool k') s := by
  subst e
  exact ⟨.bl k, H, I, rfl, q⟩
theorem op_eq : OpR X (compareOp .Eq) rEq := by
  intro pins s σ H x y v u Q I rx ry h
  obtain ⟨hs, q⟩ := h
  cases x with
  | non =>
    cases rx
    cases y with
    | non => cases ry; exact PySem.EqNone.eq_none_none (fin_bl I q (by simp))
    | bl j => cases ry; exact PySem.EqNone.eq_none_bool (fin_bl I q (by simp))
    | int j => obtain ⟨t', rfl⟩ := ry; exact PySem.EqNone.eq_none_int (fin_bl I q (by simp))
    | str j => obtain ⟨t', rfl⟩ := ry; exact PySem.EqNone.eq_none_str (fin_bl I q (by simp))
    | _ => exact absurd (show false = true from hs) Bool.false_ne_true
  | bl i =>
    cases rx
    cases y with
    | non => cases ry; exact PySem.EqNone.eq_bool_none (fin_bl I q (by simp))
    | bl j => cases ry; exact eq_bool (fin_bl I q dec_bl)
    | str j => obtain ⟨t', rfl⟩ := ry; exact PySem.EqMixed.eq_bool_str (fin_bl I q (by simp))
    | _ => exact absurd (show false = true from hs) Bool.false_ne_true
  | int i =>
    obtain ⟨t, rfl⟩ := rx
    cases y with
    | non => cases ry; exact PySem.EqNone.eq_int_none (fin_bl I q (by simp))
    | int j => obtain ⟨t', rfl⟩ := ry; exact eq_int (fin_bl I q dec_int)
    | str j => obtain ⟨t', rfl⟩ := ry; exact PySem.EqMixed.eq_int_str (fin_bl I q (by simp))
    | _ => exact absurd (show false = true from hs) Bool.false_ne_true
  | str i =>
    obtain ⟨t, rfl⟩ := rx
    cases y with
    | non => cases ry; exact PySem.EqNone.eq_str_none (fin_bl I q (by simp))
    | bl j => cases ry; exact PySem.EqMixed.eq_str_bool (fin_bl I q (by simp))
    | int j => obtain ⟨t', rfl⟩ := ry; exact PySem.EqMixed.eq_str_int (fin_bl I q (by simp))
    | str j => obtain ⟨t', rfl⟩ := ry; exact eq_str (fin_bl I q dec_str)
    | _ => exact absurd (show false = true from hs) Bool.false_ne_true
  | byt i =>
    obtain ⟨t, rfl⟩ := rx
    cases y with
    | byt j => obtain ⟨t', rfl⟩ := ry; exact PySem.W.eq_bytes (fin_bl I q dec_byt)
    | _ => exact absurd (show false = true from hs) Bool.false_ne_true
  | _ => cases y <;> exact absurd (show false = true from hs) Bool.false_ne_true
theorem op_ne : OpR X (compareOp .NotEq) rNe := by
  intro pins s σ H x y v u Q I rx ry h
  obtain ⟨hs, q⟩ := h
  cases x with
  | non =>
    cases rx
    cases y with
    | non => cases ry; exact PySem.EqNone.ne_none_none (fin_bl I q (by simp))
    | bl j => cases ry; exact PySem.EqNone.ne_none_bool (fin_bl I q (by simp))
    | int j => obtain ⟨t', rfl⟩ := ry; exact PySem.EqNone.ne_none_int (fin_bl I q (by simp))
    | str j => obtain ⟨t', rfl⟩ := ry; exact PySem.EqNone.ne_none_str (fin_bl I q (by simp))
    | _ => exact absurd (show false = true from hs) Bool.false_ne_true
  | bl i =>
    cases rx
    cases y with
    | non => cases ry; exact PySem.EqNone.ne_bool_none (fin_bl I q (by simp))
    | bl j => cases ry; exact ne_bool (fin_bl I q (congrArg not dec_bl))
    | str j => obtain ⟨t', rfl⟩ := ry; exact PySem.EqMixed.ne_bool_str (fin_bl I q (by simp))
    | _ => exact absurd (show false = true from hs) Bool.false_ne_true
  | int i =>
    obtain ⟨t, rfl⟩ := rx
    cases y with
    | non => cases ry; exact PySem.EqNone.ne_int_none (fin_bl I q (by simp))
    | int j => obtain ⟨t', rfl⟩ := ry; exact ne_int (fin_bl I q (congrArg not dec_int))
    | str j => obtain ⟨t', rfl⟩ := ry; exact PySem.EqMixed.ne_int_str (fin_bl I q (by simp))
    | _ => exact absurd (show false = true from hs) Bool.false_ne_true
  | str i =>
    obtain ⟨t, rfl⟩ := rx
    cases y with
    | non => cases ry; exact PySem.EqNone.ne_str_none (fin_bl I q (by simp))
    | bl j => cases ry; exact PySem.EqMixed.ne_str_bool (fin_bl I q (by simp))
    | int j => obtain ⟨t', rfl⟩ := ry; exact PySem.EqMixed.ne_str_int (fin_bl I q (by simp))
    | str j => obtain ⟨t', rfl⟩ := ry; exact ne_str (fin_bl I q (congrArg not dec_str))
    | _ => exact absurd (show false = true from hs) Bool.false_ne_true
  | byt i =>
    obtain ⟨t, rfl⟩ := rx
    cases y with
    | byt j => obtain ⟨t', rfl⟩ := ry; exact PySem.W.ne_bytes (fin_bl I q (congrArg not dec_byt))
    | _ => exact absurd (show false = true from hs) Bool.false_ne_true
  | _ => cases y <;> exact absurd (show false = true from hs) Bool.false_ne_true

theorem op_lt : OpR X (compareOp .Lt) (rI0 fun i j => .bl (decide (i < j))) := opB0 fun _ _ _ _ _ _ _ q => lt_int q
theorem op_gt : OpR X (compareOp .Gt) (rI0 fun i j => .bl (decide (j < i))) := opB0 fun _ _ _ _ _ _ _ q => gt_int q
def isObj : HO → Bool
  | .lst _ => true
  | .ins _ _ _ => true
  | _ => false
theorem nomark (b : Expr) {op : CmpOp} (h : op ≠ .In := by decide) (h2 : op ≠ .NotIn := by decide) : behindInMarks op b = false := by
  have e1 : (op == CmpOp.In) = false := by cases op <;> first | rfl | exact absurd rfl h
  have e2 : (op == CmpOp.NotIn) = false := by cases op <;> first | rfl | exact absurd rfl h2
  cases b <;> simp [behindInMarks, e1, e2]

theorem pe_cmpR {op : CmpOp} {r : R2} (ho : OpR X (compareOp op) r) (ha : PE X a ta) (hb : PE X b tb) (hm : behindInMarks op b = false) : PE X (.Compare a [op] [b] pos) (tOp r ta tb) := by
  intro pins s σ H Q I h
  exact wpAny_Compare1 (binT ha hb I h fun v u s2 x y H2 I2 rx ry q => ho pins s2 σ H2 x y v u Q I2 rx ry q) hm

def tTest (t : TE) : TT := fun σ H Q => t σ H fun x H' => ∃ k, x = .bl k ∧ Q k H'
theorem pt_cmpR {op : CmpOp} {r : R2} (ho : OpR X (compareOp op) r) (ha : PE X a ta) (hb : PE X b tb) (hm : behindInMarks op b = false) : PT X (.Compare a [op] [b] pos) (tTest (tOp r ta tb)) := by
  intro pins s σ H Q I h
  refine wpAny_isTrue_Compare1 (thn (ha pins s σ H _ I h) fun v s1 ⟨x, H1, I1, r1, q1⟩ => thn (hb pins s1 σ H1 _ I1 q1) fun u s2 ⟨y, H2, I2, r2, q2⟩ =>
    thn (ho pins s2 σ H2 x y v u _ I2 r1 r2 q2) fun c s3 ⟨z, H3, I3, r3, k, e, q3⟩ => ?_) hm
  subst e
  cases r3
  exact wpAny_truthy_bool ⟨H3, I3, q3⟩

def tChain (r r' : R2) (ta tb tc : TE) : TE := fun σ H Q => ta σ H fun x H1 => tb σ H1 fun y H2 => r x y H2 fun z H3 => ∃ k, z = .bl k ∧
  (if k = true then tc σ H3 fun w' H4 => r' y w' H4 Q else Q (.bl false) H3)
def TruV (K : PySem.W.Frag) (x : V) (H : Hp) (k : Bool) : Prop :=
  match x with
  | .non => k = false
  | .bl b => k = b
  | .int i => k = (i != 0)
  | .str y => y.length ≤ sizeLine ∧ k = ((y.length : Int) != 0)
  | .byt y => y.size ≤ sizeLine ∧ k = ((y.size : Int) != 0)
  | .ref p => (∃ xs, SqL K H p xs ∧ k = !xs.isEmpty) ∨ (∃ xs, SqT K H p xs ∧ k = !xs.isEmpty) ∨ ∃ kvs, H p = some (.dK kvs) ∧ k = !kvs.isEmpty
  | _ => False
theorem line63 : (sizeLine : Nat) < 2 ^ 63 := by rw [sizeLine_eq]; decide
def PlainIxT (b : Expr) : Prop := ∀ o i, subscripted b false o i = operate [o, i] (getItem o i)

theorem vals1 {x : V} {us : List Value} (r : Vals [x] us) : ∃ u, us = [u] ∧ RelV x u := by
  cases r with
  | cons r1 r2 => cases r2; exact ⟨_, rfl, r1⟩
theorem vals2 {x y : V} {us : List Value} (r : Vals [x, y] us) : ∃ u w', us = [u, w'] ∧ RelV x u ∧ RelV y w' := by
  cases r with
  | cons r1 r2 =>
    cases r2 with
    | cons r3 r4 => cases r4; exact ⟨_, _, rfl, r1, r3⟩
theorem call_min2 (hc : X.calm = true) : CallR X (.builtin "min") (fun xs H Q => ∃ i j, xs = [.int i, .int j] ∧ Q (.int (if j < i then j else i)) H) := by
  intro pins s σ H xs us Q I r h
  obtain ⟨i, j, rfl, q⟩ := h
  obtain ⟨u, w', rfl, ⟨t, rfl⟩, ⟨t', rfl⟩⟩ := vals2 r
  refine min_two_ints (I.ok.hd hc) fun h' tk k => ⟨_, H, I.kept k, ?_, q⟩
  by_cases hj : j < i
  · rw [if_pos hj, if_pos hj]; exact ⟨_, rfl⟩
  · rw [if_neg hj, if_neg hj]; exact ⟨_, rfl⟩
theorem call_int1 : CallR X (.type "int") (fun xs H Q => (∃ i, xs = [.int i] ∧ Q (.int i) H) ∨ ∃ k, xs = [.bl k] ∧ Q (.int (if k then 1 else 0)) H) := by
  intro pins s σ H xs us Q I r h
  rcases h with ⟨i, rfl, q⟩ | ⟨k, rfl, q⟩
  · obtain ⟨u, rfl, t, rfl⟩ := vals1 r
    exact call_int_int ⟨.int i, H, I, ⟨_, rfl⟩, q⟩
  · obtain ⟨u, rfl, r1⟩ := vals1 r
    cases r1
    exact call_int_bool ⟨.int (if k then 1 else 0), H, I.tok _, ⟨_, rfl⟩, q⟩
def LenV (K : PySem.W.Frag) (x : V) (H : Hp) (n : Nat) : Prop :=
  match x with
  | .str y => y.length ≤ sizeLine ∧ n = y.length
  | .byt y => y.size ≤ sizeLine ∧ n = y.size
  | .ref p => (∃ xs, SqL K H p xs ∧ n = xs.length) ∨ ∃ xs, SqT K H p xs ∧ n = xs.length
  | _ => False
end
end L2

namespace L2
open PySem PySem.Spec PyProof.Rows


structure ObjM (h : Heap) (x dx C : Addr) (mA : Str → Option Value) : Prop where
  obj : h.get? x = some (PySem.W.instObj C dx)
  ns : h.Ns1 dx mA
  ne : dx ≠ x

section
variable {prog : Program} {w : World} {A : Around} {E : Value → Shared → Prop} {s : Shared} {K : PySem.W.Frag} {x dx C f : Addr} {mA : Str → Option Value} {name : Str} {v : Value}

end


def putF (f : Str) (v : V) : List (Str × V) → List (Str × V)
  | [] => [(f, v)]
  | (g, x) :: r => if g = f then (g, v) :: r else (g, x) :: putF f v r
section
variable {P : Program} {w : World} {H H' : Hp} {h h' : Heap} {a C dx : Addr} {fs fs' : List (Str × V)}
end


structure Cls (K : PySem.W.Frag) (C : Addr) : Prop where
  pg : PySem.W.plainGet K C Str.empty = true
  hd : PySem.W.hasDictIn K C = true
  po : PySem.W.plainOver K C = true
  sa : PySem.W.findIn K (.ref C) "__setattr__" = some (some (.builtin "object.__setattr__"))
theorem Cls.get {K : PySem.W.Frag} {C : Addr} (c : Cls K C) (f : Str) : PySem.W.plainGet K C f = true := c.pg

def NoAttr (K : PySem.W.Frag) (C : Addr) (f : Str) : Prop := PySem.W.findIn K (.ref C) f = some none
structure Con (K : PySem.W.Frag) (C : Addr) (f : Str) (v : V) (u : Value) : Prop where
  at_ : PySem.W.findIn K (.ref C) f = some (some u)
  rel : RelV v u
  get : PySem.W.specialIn K u "__get__" = some none
  cp : PySem.W.copiedNames.contains f = false

structure Meth (K : PySem.W.Frag) (C : Addr) (m : Str) (f : Addr) : Prop where
  at_ : PySem.W.findIn K (.ref C) m = some (some (.ref f))
  fn : PySem.W.isFn K (.ref f) = true
  kp : PySem.W.keepIn K (.ref f) = true

section
variable {X : Cx} {pins : List (Addr × Obj)} {σ : St} {H : Hp} {s : Shared} {a C dx : Addr} {fs : List (Str × V)} {f : Str} {v : V} {A : Around} {E : Value → Shared → Prop}

end



def tFld (K : PySem.W.Frag) (ta : TE) (f : Str) : TE := fun σ H Q => ta σ H fun x H1 => ∃ a C dx fs v, x = .ref a ∧ H1 a = some (.ins C dx fs) ∧ Cls K C ∧ NoAttr K C f ∧ fs.lookup f = some v ∧ Q v H1

def tCon (K : PySem.W.Frag) (ta : TE) (f : Str) : TE := fun σ H Q => ta σ H fun x H1 => ∃ a C dx fs v u, x = .ref a ∧ H1 a = some (.ins C dx fs) ∧ Cls K C ∧ Con K C f v u ∧ fs.lookup f = none ∧ Q v H1

def sFld (K : PySem.W.Frag) (ta tv : TE) (f : Str) : TS := fun D σ H => tv σ H fun y H1 => ta σ H1 fun x H2 => ∃ a C dx fs, x = .ref a ∧ H2 a = some (.ins C dx fs) ∧ Cls K C ∧ NoAttr K C f ∧ fs.length < 1000 ∧
  D.nx σ (upd H2 a (.ins C dx (putF f y fs)))

def InOp (X : Cx) (op : Operator) (rd : V → V → Hp → VK → Prop) : Prop :=
  ∀ (pins : List (Addr × Obj)) (s : Shared) (σ : St) (H : Hp) (x y : V) (u v : Value) (Q : VK), Inv X pins σ H s → RelV x u → RelV y v → rd x y H Q → wpAny (model X.prog X.w) X.A (inplaceOp op u v) (EP X pins σ Q) X.xe s

def sFldAug (K : PySem.W.Frag) (ta tv : TE) (rd : V → V → Hp → VK → Prop) (f : Str) : TS := fun D σ H => ta σ H fun x H1 => ∃ a C dx fs v, x = .ref a ∧ H1 a = some (.ins C dx fs) ∧ Cls K C ∧ NoAttr K C f ∧ fs.lookup f = some v ∧
  tv σ H1 fun y H2 => rd v y H2 fun z H3 => ∃ dx' fs', H3 a = some (.ins C dx' fs') ∧ fs'.length < 1000 ∧ D.nx σ (upd H3 a (.ins C dx' (putF f z fs')))

section
variable {X : Cx} {o e value : Expr} {f : Str} {pos pos' tpos : Pos} {ta tv : TE}
def rAdd : V → V → Hp → VK → Prop := fun x y H Q => ∃ i j, x = .int i ∧ y = .int j ∧ Q (.int (i + j)) H
def rSub : V → V → Hp → VK → Prop := fun x y H Q => ∃ i j, x = .int i ∧ y = .int j ∧ Q (.int (i - j)) H
end


section
variable {X : Cx} {pins : List (Addr × Obj)} {σ : St} {H : Hp} {s : Shared} {A : Around} {E : Value → Shared → Prop} {Q : Value → Shared → Prop} {c : Value} {b : Bool}

inductive TyOf (K : PySem.W.Frag) (H : Hp) : V → Value → Prop where
  | non : TyOf K H .non (.type "NoneType")
  | bl (x : Bool) : TyOf K H (.bl x) (.type "bool")
  | int (i : Int) : TyOf K H (.int i) (.type "int")
  | str (x : Str) : TyOf K H (.str x) (.type "str")
  | flt (x : UInt64) : TyOf K H (.flt x) (.type "float")
  | lst {a : Addr} {xs : List V} (e : H a = some (.lst xs)) : TyOf K H (.ref a) (.type "list")
  | frz {a : Addr} {o : Obj} {xs : List V} (e : H a = some (.frz o (.lst xs))) : TyOf K H (.ref a) (.type "list")
  | tup {a : Addr} {xs : List V} (e : H a = some (.tup xs)) : TyOf K H (.ref a) (.type "tuple")
  | dK {a : Addr} {kvs : List (Key × V)} (e : H a = some (.dK kvs)) : TyOf K H (.ref a) (.type "dict")
  | dT {a : Addr} {kvs : List (List Key × V)} (e : H a = some (.dT kvs)) : TyOf K H (.ref a) (.type "dict")
  | ins {a C dx : Addr} {fs : List (Str × V)} (e : H a = some (.ins C dx fs)) (cl : Cls K C) (ha : PySem.W.findIn K (.ref C) "__class__" = some (some (.builtin "object.__class__")))
      (hn : PySem.W.specialIn K (.builtin "object.__class__") "__get__" = some (some (.builtin "getset_descriptor.__get__"))) (htk : PySem.W.takesIn K (.builtin "object.__class__") = some true)
      (hm : PySem.W.mroIn K C (.type "object") = some true) : TyOf K H (.ref a) (.ref C)

end
end L2

namespace L2
open PySem PySem.Spec PyProof.Rows


structure Room (k : Nat) (A : Around) : Prop where
  hd : A.handled = none
  dp : A.depth + 3 * k + 5 < recursionLimit
  un : A.units + 16 * k + 200 < cLine
  gd : A.guards = some []
theorem Room.mono {j k : Nat} {A : Around} (r : Room k A) (h : j ≤ k) : Room j A := ⟨r.hd, by have := r.dp; omega, by have := r.un; omega, r.gd⟩
theorem Room.deeper {k : Nat} {A : Around} (r : Room (k + 1) A) (env : Env) : Room k (A.deeper env) :=
  ⟨r.hd, by have := r.dp; show A.depth + 1 + 3 * k + 5 < _; omega, by have := r.un; show A.units + 3 + 16 * k + 200 < _; omega, r.gd⟩
theorem Room.in1 {k : Nat} {A : Around} (r : Room (k + 1) A) : Room k A.in1 :=
  ⟨r.hd, by have := r.dp; show A.depth + 3 * k + 5 < _; omega, by have := r.un; show A.units + 1 + 16 * k + 200 < _; omega, r.gd⟩
theorem Room.depth {k : Nat} {A : Around} (r : Room k A) : A.depth < recursionLimit := by have := r.dp; omega
theorem Room.units {k : Nat} {A : Around} (r : Room k A) : A.units + 64 < cLine := by have := r.un; omega
def tNil : TA := fun _ H Q => Q [] H
def tCons (ta : TE) (tr : TA) : TA := fun σ H Q => ta σ H fun x H1 => tr σ H1 fun xs H2 => Q (x :: xs) H2
section
variable {X : Cx} {e : Expr} {es : List Expr} {te : TE} {t : TA} {pos : Pos}
theorem pa_nil : PA X [] tNil := fun _ _ _ _ H Q I h => Calls.spliced_nil ⟨[], H, I, .nil, h⟩
theorem pa_cons (ha : PE X e te) (hr : PA X es t) (hs : starEach (e :: es) X.env = (false, eval e X.env) :: starEach es X.env := by rfl) : PA X (e :: es) (tCons te t) := by
  intro pos pins s σ H Q I h
  rw [hs]
  show wpAny _ _ (spliced ((false, eval e X.env) :: backTo pos (starEach es X.env))) _ _ s
  refine Calls.spliced_cons (thn (ha pins s σ H _ I h) fun u s1 ⟨x, H1, I1, r1, q1⟩ => ?_)
  exact thn (hr pos pins s1 σ H1 _ I1 q1) fun us s2 ⟨xs, H2, I2, r2, q2⟩ => ⟨x :: xs, H2, I2, .cons r1 r2, q2⟩


def tTup (t : TA) : TE := fun σ H Q => t σ H fun xs H1 => xs.length ≤ sizeLine ∧ ∀ p, H1 p = none → Q (.ref p) (upd H1 p (.tup xs))
def tLst (t : TA) : TE := fun σ H Q => t σ H fun xs H1 => xs.length ≤ sizeLine ∧ ∀ p, H1 p = none → Q (.ref p) (upd H1 p (.lst xs))
theorem pe_tup {x1} (h : PA X es t) : PE X (.Tuple es x1 pos) (tTup t) := by
  intro pins s σ H Q I hq
  refine wpAny_Tuple_spliced (thn (h pos pins s σ H _ I hq) fun us s1 ⟨xs, H1, I1, r, z, q⟩ => ⟨by rw [← r.length]; exact z, ?_⟩)
  have hf : H1 s1.heap.objs.size = none := I1.hok.fresh (Nat.le_refl _)
  refine ⟨.ref s1.heap.objs.size, upd H1 s1.heap.objs.size (.tup xs), I1.laid (t' := s1.toks) (fun b u e => Heap.get?_push_of_some _ e) (Nat.le_refl _) ?_, rfl, q _ hf⟩
  exact ⟨z, us, r, ⟨_, Heap.get?_push_size _ rfl, rfl, rfl, _, rfl⟩⟩
theorem pe_lst (h : PA X es t) : PE X (.List es pos) (tLst t) := by
  intro pins s σ H Q I hq
  refine wpAny_List_spliced (thn (h pos pins s σ H _ I hq) fun us s1 ⟨xs, H1, I1, r, z, q⟩ => ⟨by rw [← r.length]; exact z, ?_⟩)
  have hf : H1 s1.heap.objs.size = none := I1.hok.fresh (Nat.le_refl _)
  refine ⟨.ref s1.heap.objs.size, upd H1 s1.heap.objs.size (.lst xs), I1.laid (t' := s1.toks) (fun b u e => Heap.get?_push_of_some _ e) (Nat.le_refl _) ?_, rfl, q _ hf⟩
  exact ⟨z, us, 0, r, Heap.get?_push_size _ rfl⟩
end



abbrev Sp := List V → Hp → VK → XK → Prop

abbrev CXT := List Env → Hp → Shared → XK → Value → Shared → Prop


structure Env0 (P : Program) (w : World) (K : PySem.W.Frag) (mg : Str → Option Value) (base : Heap) (A : Around) (outer : List Env) (s : Shared) (H : Hp) : Prop where
  frames : A.frames = some outer
  mod : Mod K mg base
  bs : ∀ b o, base.get? b = some o → s.heap.get? b = some o ∧ H b = none
  bsz : base.objs.size ≤ s.heap.objs.size
  funs : s.heap.FunFrames base outer
  frf : ∀ b ∈ frs outer, H b = none
  hok : HOk P w H s.heap
  bare : AllBare s.gens

def CE (outer : List Env) (P : Program) (w : World) (H : Hp) (s : Shared) (Q : VK) (u : Value) (s' : Shared) : Prop :=
  ∃ v H', s'.os = s.os ∧ AllBare s'.gens ∧ Un (frs outer) [] H H' s.heap s'.heap ∧ HOk P w H' s'.heap ∧ RelV v u ∧ Q v H'
def CR (CX : CXT) (outer : List Env) (P : Program) (w : World) (H : Hp) (s : Shared) (Q : VK) (E : XK) (r : Result) (s' : Shared) : Prop :=
  match r with
  | .ok (.ret u) => CE outer P w H s Q u s'
  | .ok _ => False
  | .error e => CX outer H s E e s'
structure FnOk (P : Program) (w : World) (K : PySem.W.Frag) (mg : Str → Option Value) (base : Heap) (CX : CXT) (k : Nat) (f : Addr) (fd : FuncData) (ps : List Str) (sp : Sp) : Prop where
  len : ∀ vs H Q E, sp vs H Q E → vs.length = ps.length
  run : ∀ (A : Around) (outer : List Env) (s : Shared) (H : Hp) (args : Args) (us : List Value) (vs : List V) (Q : VK) (E : XK), Room k A → Env0 P w K mg base A outer s H → BindsTo s fd args (ps.zip us) → Vals vs us → sp vs H Q E →
    codeAny (model P w) A (.call (.ref f) args) (CR CX outer P w H s Q E) s
theorem FnOk.mono {P : Program} {w : World} {K : PySem.W.Frag} {mg : Str → Option Value} {base : Heap} {CX : CXT} {j k : Nat} {f : Addr} {fd : FuncData} {ps : List Str} {sp : Sp} (F : FnOk P w K mg base CX j f fd ps sp) (h : j ≤ k) :
    FnOk P w K mg base CX k f fd ps sp := ⟨F.len, fun A outer s H args us vs Q E hr => F.run A outer s H args us vs Q E (hr.mono h)⟩

theorem Env0.in1 {P : Program} {w : World} {K : PySem.W.Frag} {mg : Str → Option Value} {base : Heap} {A : Around} {outer : List Env} {s : Shared} {H : Hp} (e : Env0 P w K mg base A outer s H) :
    Env0 P w K mg base A.in1 outer s H := ⟨e.frames, e.mod, e.bs, e.bsz, e.funs, e.frf, e.hok, e.bare⟩

section
variable {X : Cx} {pins : List (Addr × Obj)} {σ : St} {H : Hp} {s s' : Shared}

theorem Inv.env0 (I : Inv X pins σ H s) : Env0 X.prog X.w X.K X.mg X.base X.A X.stack s H :=
  ⟨I.ok.frames, I.ok.mod, I.bs, Nat.le_trans I.ok.bsz I.sz, I.stack, I.stkFree, I.hok, I.bare⟩

theorem Inv.after {Q : VK} {u : Value} (I : Inv X pins σ H s) (h : CE X.stack X.prog X.w H s Q u s') : EP X pins σ Q u s' := by
  obtain ⟨v, H', os, bare, un, hok, r, q⟩ := h
  obtain ⟨hh, g, d, t, os'⟩ := s'
  obtain rfl : os' = s.os := os
  exact ⟨v, H', I.call (h' := hh) (g' := g) (d' := d) (t' := t) (ch := []) un hok bare (fun b z => absurd z (by simp)), r, q⟩
end



def tCall (sp : Sp) (dvs : List V) (E : XK) (t : TA) : TE := fun σ H Q => t σ H fun vs H1 => sp (vs ++ dvs) H1 Q E

def tMeth (C : Addr) (m : Str) (sp : Sp) (dvs : List V) (E : XK) (ta : TE) (t : TA) : TE := fun σ H Q => ta σ H fun x H1 => ∃ a dx fs, x = .ref a ∧ H1 a = some (.ins C dx fs) ∧ fs.lookup m = none ∧
  t σ H1 fun vs H2 => sp (x :: (vs ++ dvs)) H2 Q E

def tMake (C : Addr) (sp : Sp) (dvs : List V) (E : XK) (t : TA) : TE := fun σ H Q => t σ H fun vs H1 => ∀ x dx, H1 x = none → H1 dx = none → dx ≠ x →
  sp (.ref x :: (vs ++ dvs)) (upd (upd H1 dx (.own x)) x (.ins C dx [])) (fun v H2 => v = .non ∧ Q (.ref x) H2) E


def Binds (K : PySem.W.Frag) (fd : FuncData) (ps : List Str) (ds : List Value) : Prop :=
  ∀ (s : Shared) (us : List Value), K.In s.heap → (us ++ ds).length = ps.length → BindsTo s fd ⟨us, []⟩ (ps.zip (us ++ ds))

theorem Binds.all {K : PySem.W.Frag} {fd : FuncData} {ps : List Str} (h : ∀ us : List Value, us.length = ps.length → bindArgs fd ⟨us, []⟩ = pure (ps.zip us)) : Binds K fd ps [] := fun s us _ hl => by
  rw [List.append_nil] at hl ⊢
  exact .of_eq (h us hl)


def Passes (CX : CXT) (X : Cx) (E : XK) : Prop := ∀ (pins : List (Addr × Obj)) (σ : St) (H : Hp) (s : Shared) (e : Value) (s' : Shared), Inv X pins σ H s → CX X.stack H s E e s' → X.xe e s'

section
variable {X : Cx} {CX : CXT} {k : Nat} {f C : Addr} {fd : FuncData} {ps : List Str} {sp : Sp} {dvs : List V} {ds : List Value} {E : XK} {x m : Str} {p pos apos : Pos} {e o : Expr} {es : List Expr} {ta : TE} {t : TA}


theorem run_fn {pins : List (Addr × Obj)} {σ : St} {H : Hp} {s : Shared} {Q : VK} {us : List Value} {vs : List V} (F : FnOk X.prog X.w X.K X.mg X.base CX k f fd ps sp) (hr : Room k X.A) (hb : Binds X.K fd ps ds) (hd : Vals dvs ds) (hx : Passes CX X E)
    (I : Inv X pins σ H s) (r : Vals vs us) (h : sp (vs ++ dvs) H Q E) : wpAny (model X.prog X.w) X.A (call (.ref f) us) (EP X pins σ Q) X.xe s := by
  have r2 : Vals (vs ++ dvs) (us ++ ds) := r.append hd
  have hl : (us ++ ds).length = ps.length := by rw [← r2.length]; exact F.len _ _ _ _ h
  refine wpAny_call (codeAny_mono (F.run X.A X.stack s H ⟨us, []⟩ (us ++ ds) (vs ++ dvs) Q E hr I.env0 (hb s us I.kIn hl) r2 h) fun r s' hq => ?_)
  cases r with
  | error e => exact hx pins σ H s e s' I hq
  | ok fl =>
    cases fl with
    | ret u => exact I.after hq
    | next => exact False.elim hq
    | brk => exact False.elim hq
    | cont => exact False.elim hq

theorem pe_call (F : FnOk X.prog X.w X.K X.mg X.base CX k f fd ps sp) (hr : Room k X.A) (hg : Gl X x) (hm : X.mg x = some (.ref f)) (hk : PySem.W.keepIn X.K (.ref f) = true) (hb : Binds X.K fd ps ds) (hd : Vals dvs ds) (hx : Passes CX X E)
    (ha : PA X (e :: es) t) (hdb : (x == ("__debug__" : Str)) = false := by decide) (he : starEach (e :: es) X.env = (false, eval e X.env) :: starEach es X.env := by rfl) (hpl : (backTo pos (starEach es X.env)).any (·.1) = false := by rfl) :
    PE X (.Call (.Name x p) (e :: es) [] pos) (tCall sp dvs E t) := by
  intro pins s σ H Q I h
  refine wpAny_Call_Name_kw (ld_glob I hg hm ?_ hdb)
  refine PySem.W.callWith_K (h₀ := X.base) I.ok.mod.kin hk (thn (ha pos pins s σ H _ I h) fun us s1 ⟨vs, H1, I1, r, q⟩ => ⟨I1.kIn, ?_⟩) he hpl
  exact run_fn F hr hb hd hx I1 r q
structure Mk (K : PySem.W.Frag) (C f : Addr) : Prop where
  makes : PySem.W.makesIn K C = true
  init : PySem.W.findIn K (.ref C) "__init__" = some (some (.ref f))
  fn : PySem.W.isFn K (.ref f) = true
  kp : PySem.W.keepIn K (.ref C) = true

end



def PK (X : Cx) (kws : List Keyword) (t : TA) : Prop :=
  ∀ (pos : Pos) (pins : List (Addr × Obj)) (s : Shared) (σ : St) (H : Hp) (Q : List V → Hp → Prop), Inv X pins σ H s → t σ H Q → wpAny (model X.prog X.w) X.A (evalAll ((backToKw pos (keywordEach kws X.env)).map (·.2))) (AP X pins σ Q) X.xe s
section
variable {X : Cx} {CX : CXT} {k : Nat} {f C : Addr} {fd : FuncData} {ps ks : List Str} {sp : Sp} {E : XK} {x m : Str} {p pos apos kpos : Pos} {e o : Expr} {es : List Expr} {kws : List Keyword} {te ta : TE} {t tk : TA} {nm : Option Str}
structure KBinds (K : PySem.W.Frag) (fd : FuncData) (ps ks : List Str) (g : List Value → List Value → List Value) (gV : List V → List V → List V) : Prop where
  to : ∀ (s : Shared) (us ws : List Value), K.In s.heap → (g us ws).length = ps.length → BindsTo s fd ⟨us, ks.zip ws⟩ (ps.zip (g us ws))
  rel : ∀ {vs : List V} {us : List Value} {zs : List V} {ws : List Value}, Vals vs us → Vals zs ws → Vals (gV vs zs) (g us ws)
def tCallK (sp : Sp) (gV : List V → List V → List V) (E : XK) (t tk : TA) : TE := fun σ H Q => t σ H fun vs H1 => tk σ H1 fun zs H2 => sp (gV vs zs) H2 Q E
variable {g : List Value → List Value → List Value} {gV : List V → List V → List V}
end



structure FnScope (N P : List Str) (sc : Scope) : Prop where
  kind : sc.kind = .function
  co : sc.isCoroutine = false
  gen : sc.isGenerator = false
  nd : N.Nodup
  pre : N.take P.length = P
  par : ∀ x ∈ P, sc.names.lookup x = some .local ∨ sc.names.lookup x = some .cell
  nofree : ∀ y ∈ sc.names, y.2 ≠ .free

theorem bindL_out {kindOf : Str → Option NameKind} {x : Str} : ∀ {binds : List (Str × Value)} {m : Str → Option Value}, (∀ v, (x, v) ∉ binds) → bindL kindOf binds m x = m x
  | [], _, _ => rfl
  | (n, v) :: r, m, h => by
    unfold bindL
    rw [bindL_out fun w hw => h w (List.mem_cons_of_mem _ hw)]
    split
    · have : x ≠ n := by rintro rfl; exact h v List.mem_cons_self
      simp [this]
    · rfl
theorem bindC_out {kindOf : Str → Option NameKind} {x : Str} : ∀ {binds : List (Str × Value)} {m : Str → Option Value}, (∀ v, (x, v) ∉ binds) → bindC kindOf binds m x = m x
  | [], _, _ => rfl
  | (n, v) :: r, m, h => by
    unfold bindC
    rw [bindC_out fun w hw => h w (List.mem_cons_of_mem _ hw)]
    split
    · rfl
    · have : x ≠ n := by rintro rfl; exact h v List.mem_cons_self
      simp [this]
theorem bindL_get {kindOf : Str → Option NameKind} {x : Str} {v : Value} : ∀ {P : List Str} {vs : List Value} {i : Nat} {m : Str → Option Value}, P.Nodup → P[i]? = some x → vs[i]? = some v → kindOf x = some .local →
    bindL kindOf (P.zip vs) m x = some v
  | [], _, _, _, _, h, _, _ => by simp at h
  | _ :: _, [], _, _, _, _, h, _ => by simp at h
  | p :: P, w :: vs, 0, m, nd, h1, h2, hk => by
    simp at h1 h2; subst h1; subst h2
    show bindL kindOf ((p, w) :: P.zip vs) m p = _
    unfold bindL
    rw [bindL_out fun v hv => (List.nodup_cons.mp nd).1 (List.of_mem_zip hv).1, if_pos hk]
    simp
  | p :: P, w :: vs, i + 1, m, nd, h1, h2, hk => by
    show bindL kindOf ((p, w) :: P.zip vs) m x = _
    unfold bindL
    exact bindL_get (i := i) (List.nodup_cons.mp nd).2 (by simpa using h1) (by simpa using h2) hk
theorem bindC_get {kindOf : Str → Option NameKind} {x : Str} {v : Value} : ∀ {P : List Str} {vs : List Value} {i : Nat} {m : Str → Option Value}, P.Nodup → P[i]? = some x → vs[i]? = some v → kindOf x ≠ some .local →
    bindC kindOf (P.zip vs) m x = some v
  | [], _, _, _, _, h, _, _ => by simp at h
  | _ :: _, [], _, _, _, _, h, _ => by simp at h
  | p :: P, w :: vs, 0, m, nd, h1, h2, hk => by
    simp at h1 h2; subst h1; subst h2
    show bindC kindOf ((p, w) :: P.zip vs) m p = _
    unfold bindC
    rw [bindC_out fun v hv => (List.nodup_cons.mp nd).1 (List.of_mem_zip hv).1, if_neg hk]
    simp
  | p :: P, w :: vs, i + 1, m, nd, h1, h2, hk => by
    show bindC kindOf ((p, w) :: P.zip vs) m x = _
    unfold bindC
    exact bindC_get (i := i) (List.nodup_cons.mp nd).2 (by simpa using h1) (by simpa using h2) hk


def start (N : List Str) (vs : List V) : St := vs.map some ++ List.replicate (N.length - vs.length) none


def cxOf (CX : CXT) (P : Program) (w : World) (K : PySem.W.Frag) (mg : Str → Option Value) (base : Heap) (N : List Str) (qual : Str) (scope : Scope) (f : Addr) (cd : Value) (A : Around) (outer : List Env) (s : Shared) (H : Hp) (E : XK) : Cx where
  prog := P
  w := w
  K := K
  mg := mg
  base := base
  A := A.deeper (envOfC qual scope s.heap.objs.size f cd)
  N := N
  s₀ := s
  H₀ := H
  env := envOfC qual scope s.heap.objs.size f cd
  outer := outer
  stack := envOfC qual scope s.heap.objs.size f cd :: outer
  ex := []
  calm := true
  fn := fun _ => true
  pn := []
  xe := fun e s' => wpAny (model P w) (A.deeper (envOfC qual scope s.heap.objs.size f cd)) (leaving (envOfC qual scope s.heap.objs.size f cd) e) (fun _ s'' => CX outer H s E e s'') (fun e' s'' => CX outer H s E e' s'') s'

theorem cell_has {sc : Scope} {n : Nat} {x : Str} (h : sc.names.lookup x = some .cell) : ∃ c, (cellsFrom n sc.names []).lookup x = some c := by
  have q := PySem.W.cellsFrom_some sc.names n [] (.inl h)
  exact Option.isSome_iff_exists.mp q

theorem inv_start {CX : CXT} {P : Program} {w : World} {K : PySem.W.Frag} {mg : Str → Option Value} {base : Heap} {N ps : List Str} {qual : Str} {scope : Scope} {f : Addr} {cd : Value} {A : Around} {outer : List Env} {s s1 : Shared} {H : Hp} {E : XK} {us : List Value} {vs : List V}
    (S : FnScope N ps scope) (hd : A.handled = none) (e0 : Env0 P w K mg base A outer s H) (hl : vs.length = ps.length) (r : Vals vs us)
    (x : InCallC s s.heap.objs.size (bindL (envOfC qual scope s.heap.objs.size f cd).kindOf (ps.zip us) fun _ => none) (cellsFrom (s.heap.objs.size + 1) scope.names []) (bindC (envOfC qual scope s.heap.objs.size f cd).kindOf (ps.zip us) fun _ => none) s1) :
    Inv (cxOf CX P w K mg base N qual scope f cd A outer s H E) [] (start N vs) H s1 := by
  have hpl : ps.length ≤ N.length := by have := congrArg List.length S.pre; rw [List.length_take] at this; omega
  obtain ⟨h1, tk, rfl, hk⟩ := x.done
  have noA : ∀ b : Addr, b ∉ (cxOf CX P w K mg base N qual scope f cd A outer s H E).ex := fun b z => absurd (show b ∈ ([] : List Addr) from z) (by simp)
  refine ⟨⟨e0.mod, S.kind, rfl, rfl, Nat.le_refl _, fun y z c h1 h2 => ?_, fun y hy => ?_, fun y c _ h => ?_, fun _ => hd, Around.frames_deeper e0.frames, .inr ⟨rfl, rfl⟩, fun b z => absurd z (noA b), e0.bs, e0.bsz, fun b _ _ => noA b, fun b z => absurd z (noA b), e0.funs, e0.frf⟩,
    rfl, e0.bare, Un.kept hk, ⟨_, x.toInCall.ns, fun i y v h1 h2 h3 => ?_⟩, fun y c h => ⟨_, x.cell y c h⟩, e0.hok.fresh (Nat.le_refl _), fun y c h => ?_, fun p hp => absurd (show p ∈ ([] : List (Addr × Obj)) from hp) (by simp), e0.hok.kept hk, ?_⟩
  · exact name_of_addr x.apart (PySem.mem_of_lookup h1) (PySem.mem_of_lookup h2)
  · have hy : scope.names.lookup y = some .cell ∨ scope.names.lookup y = some .free := hy
    rcases hy with hy | hy
    · exact cell_has hy
    · exact absurd rfl (S.nofree _ (PySem.mem_of_lookup hy))
  · exact Nat.le_of_lt (x.above y c (PySem.mem_of_lookup h))
  · have hi : i < vs.length := by
      unfold start at h2
      by_cases hi : i < vs.length
      · exact hi
      · rw [List.getElem?_append_right (by simpa using hi)] at h2
        rw [List.getElem?_replicate] at h2
        split at h2 <;> cases h2
    have ha : vs[i]? = some v := by
      unfold start at h2
      rw [List.getElem?_append_left (by simpa using hi), List.getElem?_map] at h2
      cases e : vs[i]? with
      | none => rw [e] at h2; cases h2
      | some a => rw [e] at h2; cases h2; rfl
    obtain ⟨u, hu, rv⟩ := r.get ha
    have hp : ps[i]? = some y := by
      rw [← S.pre, List.getElem?_take_of_lt (by omega)]; exact h1
    have ndP : ps.Nodup := by rw [← S.pre]; exact S.nd.sublist (List.take_sublist _ _)
    refine ⟨u, rv, ?_⟩
    rcases S.par y (List.mem_of_getElem? hp) with k | k
    · exact .inl ⟨k, bindL_get ndP hp hu k⟩
    · obtain ⟨c, e⟩ := cell_has (n := s.heap.objs.size + 1) k
      refine .inr ⟨.inl k, c, e, ?_⟩
      have q := x.cell y c e
      rw [bindC_get ndP hp hu (by show scope.names.lookup y ≠ _; rw [k]; decide)] at q
      exact q
  · exact e0.hok.fresh (Nat.le_of_lt (x.above y c (PySem.mem_of_lookup h)))
  · unfold start
    show _ = N.length
    rw [List.length_append, List.length_map, List.length_replicate]
    omega


theorem fn_of {CX : CXT} {P : Program} {w : World} {K : PySem.W.Frag} {mg : Str → Option Value} {base : Heap} {k : Nat} {f : Addr} {name qual : Str} {params : Arguments} {body : List Stmt} {scope : Scope} {dV kV doc pm cdv ct oc : Value} {an od : Option Addr}
    {osl : Array (Option Value)} {N ps : List Str} {sp : Sp} (lk : K.lookup f = some ⟨oc, od, .func (PySem.W.fnOf name qual params body scope dV kV doc pm an cdv ct), osl⟩) (hcd : PySem.W.codeIn K cdv qual = true) (S : FnScope N ps scope)
    (len : ∀ vs H Q E, sp vs H Q E → vs.length = ps.length)
    (hbody : ∀ (A : Around) (outer : List Env) (s : Shared) (H : Hp) (vs : List V) (Q : VK) (E : XK), Room k (A.deeper (envOfC qual scope s.heap.objs.size f cdv)) → sp vs H Q E →
      ∃ t, PSs (cxOf CX P w K mg base N qual scope f cdv A outer s H E) body t ∧ t { nx := fun _ H' => Q .non H', rt := Q } (start N vs) H) :
    FnOk P w K mg base CX (k + 1) f (PySem.W.fnOf name qual params body scope dV kV doc pm an cdv ct) ps sp := by
  refine ⟨len, fun A outer s H args us vs Q E hr e0 hb r hsp => ?_⟩
  have hl := len _ _ _ _ hsp
  have KX : K.In s.heap := e0.mod.kin.keeps fun b o e => (e0.bs b o e).1
  have lim : s.heap.NoLimit := e0.mod.nolimit.keeps fun b o e => (e0.bs b o e).1
  have hkind : ∀ y ∈ ps.zip us, scope.names.lookup y.1 = some .local ∨ (scope.names.lookup y.1 = some .cell ∧ ((cellsFrom (s.heap.objs.size + 1) scope.names []).lookup y.1).isSome = true) := fun ⟨n, v⟩ hy => by
    rcases S.par n (List.of_mem_zip hy).1 with q | q
    · exact .inl q
    · exact .inr ⟨q, PySem.W.cellsFrom_some _ _ _ (.inl q)⟩
  refine codeAny_call_function hr.depth (KX _ _ lk) rfl S.co S.gen rfl (PySem.W.codeRec_of KX hcd) (hb _ _ _ _ ?_)
  refine wpAny_newFunctionEnv_cells S.kind hkind fun env he s1 x => ?_
  subst he
  refine ⟨lim.keeps x.toInCall.keep, codeAny_func ?_⟩
  obtain ⟨t, ht, hq⟩ := hbody A outer s H vs Q E (hr.deeper _) hsp
  have I : Inv (cxOf CX P w K mg base N qual scope f cdv A outer s H E) [] (start N vs) H s1 := inv_start S hr.hd e0 hl r x
  refine wpAny_mono (ht [] s1 (start N vs) H _ I hq) (fun fl s' hs => ?_) fun e s' hs => hs
  have fin : ∀ {σ' : St} {H' : Hp} {v : V} {u : Value}, Inv (cxOf CX P w K mg base N qual scope f cdv A outer s H E) [] σ' H' s' → RelV v u → Q v H' → CE outer P w H s Q u s' :=
    fun {σ' H' v u} J rv q => ⟨v, H', J.os, J.bare, J.base, J.hok, rv, q⟩
  cases fl with
  | ret u =>
    obtain ⟨v, σ', H', J, rv, q⟩ := hs
    exact fin J rv q
  | next =>
    obtain ⟨σ', H', J, q⟩ := hs
    exact fin (v := V.non) (u := Value.none) J rfl q
  | brk =>
    obtain ⟨_, _, _, q⟩ := hs
    exact False.elim q
  | cont =>
    obtain ⟨_, _, _, q⟩ := hs
    exact False.elim q
end L2

namespace L2
open PySem PySem.Spec PyProof.Rows
section
variable {X : Cx} {x : Str} {p pos : Pos} {e : Expr} {es : List Expr} {t : TA} {id T : String} {r : List V → Hp → VK → Prop}

def tCB (r : List V → Hp → VK → Prop) (t : TA) : TE := fun σ H Q => t σ H fun vs H1 => r vs H1 Q

theorem pe_callB (hc : CallR X (.builtin id) r) (hg : Gl X x) (hm : X.mg x = none) (hv : bootBuiltins x = some (.builtin id)) (ha : PA X (e :: es) t) (hn : x ≠ "__name__" := by decide) (hdb : (x == ("__debug__" : Str)) = false := by decide)
    (he : starEach (e :: es) X.env = (false, eval e X.env) :: starEach es X.env := by rfl) (hpl : (backTo pos (starEach es X.env)).any (·.1) = false := by rfl) : PE X (.Call (.Name x p) (e :: es) [] pos) (tCB r t) := by
  intro pins s σ H Q I h
  refine wpAny_Call_Name_kw (ld_blt I hg hm hv ?_ hn hdb)
  exact PyProof.Rows.callWith_builtin1 (thn (ha pos pins s σ H _ I h) fun us s1 ⟨vs, H1, I1, r1, q1⟩ => hc pins s1 σ H1 vs us Q I1 r1 q1) he hpl

theorem pe_callTy (hc : CallR X (.type T) r) (hg : Gl X x) (hm : X.mg x = none) (hv : bootBuiltins x = some (.type T)) (ha : PA X (e :: es) t) (hn : x ≠ "__name__" := by decide) (hdb : (x == ("__debug__" : Str)) = false := by decide)
    (he : starEach (e :: es) X.env = (false, eval e X.env) :: starEach es X.env := by rfl) (hpl : (backTo pos (starEach es X.env)).any (·.1) = false := by rfl) : PE X (.Call (.Name x p) (e :: es) [] pos) (tCB r t) := by
  intro pins s σ H Q I h
  refine wpAny_Call_Name_kw (ld_blt I hg hm hv ?_ hn hdb)
  exact PyProof.Rows.callWith_type1 (thn (ha pos pins s σ H _ I h) fun us s1 ⟨vs, H1, I1, r1, q1⟩ => hc pins s1 σ H1 vs us Q I1 r1 q1) he hpl

end
end L2

namespace HT
open PySem PyProof.Rows


def lexLt : List Int → List Int → Bool
  | [], [] => false
  | [], _ :: _ => true
  | _ :: _, [] => false
  | x :: xs, y :: ys => if x = y then lexLt xs ys else decide (x < y)
section
open PySem.SeqAt
open PySem.AutoSeq1 (wpAny_loadPart')
open PySem.MeetsSeq PySem.MeetsSeq2 PySem.MeetsSeq3

end

section
variable {prog : Program} {w : World} {A : Around} {E : Value → Shared → Prop} {s : Shared}

def sIx (n d : Nat) : Option Int → Nat
  | none => d
  | some v => if v < 0 then (v + (n : Int)).toNat else min v.toNat n
theorem sIx_none (n d : Nat) : sIx n d none = d := rfl
theorem sIx_nat (n d k : Nat) : sIx n d (some (k : Int)) = min k n := by
  show (if (k : Int) < 0 then ((k : Int) + (n : Int)).toNat else min (k : Int).toNat n) = min k n
  rw [if_neg (by omega), Int.toNat_natCast]
end
end HT

namespace L2
open PySem PySem.Spec PyProof.Rows


abbrev TO := St → Hp → (Option Int → Hp → Prop) → Prop

def PO (X : Cx) (e : Option Expr) (t : TO) : Prop :=
  ∀ (pins : List (Addr × Obj)) (s : Shared) (σ : St) (H : Hp) (Q : Option Int → Hp → Prop), Inv X pins σ H s → t σ H Q →
    wpAny (model X.prog X.w) X.A (evalPart e X.env) (fun u s' => ∃ o H', Inv X pins σ H' s' ∧ IsPart u o ∧ Q o H') X.xe s
def tNoPart : TO := fun _ H Q => Q none H
def tPart (t : TE) : TO := fun σ H Q => t σ H fun x H1 => ∃ i, x = .int i ∧ Q (some i) H1

section
variable {X : Cx} {e : Expr} {te : TE} {lo hi : Option Expr} {tl th : TO} {pos p2 : Pos}

theorem po_none : PO X none tNoPart := by
  intro pins s σ H Q I h
  rw [evalPart_none]
  exact wpAny_pure ⟨none, H, I, .none, h⟩
theorem po_some (h : PE X e te) : PO X (some e) (tPart te) := by
  intro pins s σ H Q I hw
  rw [evalPart_some]
  refine thn (h pins s σ H _ I hw) fun u s1 ⟨x, H1, I1, r1, q1⟩ => ?_
  obtain ⟨i, rfl, q⟩ := q1
  obtain ⟨t, rfl⟩ := r1
  exact ⟨some i, H1, I1, .int i t, q⟩


def SlR (X : Cx) (r : V → Option Int → Option Int → Hp → VK → Prop) : Prop :=
  ∀ (pins : List (Addr × Obj)) (s : Shared) (σ : St) (H : Hp) (x : V) (v vl vu : Value) (lo hi : Option Int) (sl : Addr) (Q : VK), Inv X pins σ H s → RelV x v → s.heap.IsSliceOf sl vl vu .none → IsPart vl lo → IsPart vu hi → r x lo hi H Q →
    ∃ T id, typeLookup (.type T) "__getitem__" = pure (some (.builtin id)) ∧ s.TypeIs v T ∧ wpAny (model X.prog X.w) X.A (getItem v (.ref sl)) (EP X pins σ Q) X.xe s
def tSl (r : V → Option Int → Option Int → Hp → VK → Prop) (te : TE) (tl th : TO) : TE := fun σ H Q => te σ H fun x H1 => tl σ H1 fun l H2 => th σ H2 fun u H3 => r x l u H3 Q

theorem pe_slice {r : V → Option Int → Option Int → Hp → VK → Prop} (hr : SlR X r) (he : PE X e te) (hl : PO X lo tl) (hu : PO X hi th) : PE X (.Subscript e (.Slice lo hi none p2) pos) (tSl r te tl th) := by
  intro pins s σ H Q I h
  refine Subscript_ (thn (he pins s σ H _ I h) fun v s1 ⟨x, H1, I1, r1, q1⟩ => ?_)
  refine wpAny_Slice (thn (hl pins s1 σ H1 _ I1 q1) fun vl s2 ⟨l, H2, I2, pl, q2⟩ => thn (hu pins s2 σ H2 _ I2 q2) fun vu s3 ⟨u, H3, I3, pu, q3⟩ => ?_)
  rw [evalPart_none]
  refine wpAny_pure ?_
  have I4 : Inv X pins σ H3 { s3 with heap := s3.heap.push { cls := .type "slice", data := .fields #[vl, vu, .none] } } := I3.kept (t' := s3.toks) fun b ob q => Heap.get?_push_of_some _ q
  obtain ⟨T, id, hT, ht, hg⟩ := hr pins { s3 with heap := s3.heap.push { cls := .type "slice", data := .fields #[vl, vu, .none] } } σ H3 x v vl vu l u s3.heap.objs.size Q I4 r1 (Heap.IsSliceOf.new ..) pl pu q3
  show wpAny (model X.prog X.w) X.A (subscriptTail e (.Slice lo hi none p2) v (.ref s3.heap.objs.size)) (EP X pins σ Q) X.xe { s3 with heap := s3.heap.push { cls := .type "slice", data := .fields #[vl, vu, .none] } }
  exact tail_any (ops := [.ref s3.heap.objs.size, v]) ht hT hg (by with_unfolding_all rfl)


def cutV (xs : List V) (lo hi : Option Int) : List V := (xs.drop (HT.sIx xs.length 0 lo)).take (HT.sIx xs.length xs.length hi - HT.sIx xs.length 0 lo)
theorem cutV_length (xs : List V) (lo hi : Option Int) : (cutV xs lo hi).length ≤ xs.length := by
  unfold cutV
  rw [List.length_take, List.length_drop]
  omega

def rSlT (K : PySem.W.Frag) : V → Option Int → Option Int → Hp → VK → Prop := fun x lo hi H Q => ∃ a xs, x = .ref a ∧ SqT K H a xs ∧
  ¬ (HT.sIx xs.length 0 lo = 0 ∧ HT.sIx xs.length xs.length hi = xs.length) ∧ ∀ p, H p = none → Q (.ref p) (upd H p (.tup (cutV xs lo hi)))
def rLtT (K : PySem.W.Frag) : R2 := fun x y H Q => ∃ a b ns ms, x = .ref a ∧ y = .ref b ∧ SqT K H a (ns.map V.int) ∧ SqT K H b (ms.map V.int) ∧ Q (.bl (HT.lexLt ns ms)) H
def rCatT (K : PySem.W.Frag) : R2 := fun x y H Q => ∃ a b xs ys, x = .ref a ∧ y = .ref b ∧ SqT K H a xs ∧ SqT K H b ys ∧ xs ≠ [] ∧ xs.length + ys.length ≤ sizeLine ∧
  (ys = [] → Q (.ref a) H) ∧ (ys ≠ [] → ∀ p, H p = none → Q (.ref p) (upd H p (.tup (xs ++ ys))))
end
end L2

namespace L2
open PySem PySem.Spec PyProof.Rows



def ixN (n : Nat) (i : Int) : Option Nat := if 0 ≤ i then (if i < n then some i.toNat else none) else if -(n : Int) ≤ i then some (i + n).toNat else none
def atI {α : Type} (xs : List α) (i : Int) : Option α := (ixN xs.length i).bind fun j => xs[j]?
theorem ixN_seq {n : Nat} {i : Int} {j : Nat} (h : ixN n i = some j) : seqIndex? i n = some j ∧ j < n ∧ -(n : Int) ≤ i ∧ i < n := by
  unfold ixN at h
  by_cases h0 : 0 ≤ i
  · rw [if_pos h0] at h
    by_cases h1 : i < n
    · rw [if_pos h1] at h
      have e : i.toNat = j := Option.some.inj h
      exact ⟨by rw [seqIndex_of h0 h1, e], by omega, by omega, h1⟩
    · rw [if_neg h1] at h; cases h
  · rw [if_neg h0] at h
    by_cases h1 : -(n : Int) ≤ i
    · rw [if_pos h1] at h
      have e : (i + n).toNat = j := Option.some.inj h
      exact ⟨by rw [seqIndex_neg (by omega) h1, e], by omega, h1, by omega⟩
    · rw [if_neg h1] at h; cases h
theorem atI_get {α : Type} {xs : List α} {i : Int} {v : α} (h : atI xs i = some v) : ∃ j, seqIndex? i xs.length = some j ∧ xs[j]? = some v ∧ j < xs.length ∧ -(xs.length : Int) ≤ i ∧ i < xs.length := by
  unfold atI at h
  cases e : ixN xs.length i with
  | none => rw [e] at h; cases h
  | some j =>
    rw [e] at h
    obtain ⟨h1, h2, h3, h4⟩ := ixN_seq e
    exact ⟨j, h1, h, h2, h3, h4⟩
theorem atI_nat {α : Type} {xs : List α} {j : Nat} {v : α} (h : xs[j]? = some v) : atI xs (j : Int) = some v := by
  have hj : j < xs.length := (List.getElem?_eq_some_iff.mp h).1
  have e : ixN xs.length (j : Int) = some j := by
    unfold ixN
    rw [if_pos (by omega), if_pos (by omega)]; simp
  unfold atI; rw [e]; exact h
def PlainIx (b : Expr) : Prop := ∀ o i, subscripted b false o i = operate [o, i] (getItem o i)

def IxR (X : Cx) (r : R2) : Prop :=
  ∀ (value slice : Expr) (pins : List (Addr × Obj)) (s : Shared) (σ : St) (H : Hp) (x y : V) (v u : Value) (Q : VK), Inv X pins σ H s → RelV x v → RelV y u → r x y H Q →
    subscripted slice false v u = operate [v, u] (getItem v u) → wpAny (model X.prog X.w) X.A (subscriptTail value slice v u) (EP X pins σ Q) X.xe s

def MtR (X : Cx) (id : String) (r : V → List V → Hp → VK → Prop) : Prop :=
  ∀ (pins : List (Addr × Obj)) (s : Shared) (σ : St) (H : Hp) (x : V) (xs : List V) (v : Value) (us : List Value) (Q : VK), Inv X pins σ H s → RelV x v → Vals xs us → r x xs H Q →
    wpAny (model X.prog X.w) X.A (call (.builtin id) (v :: us)) (EP X pins σ Q) X.xe s
section
variable {X : Cx} {a b : Expr} {ta tb : TE} {pos : Pos}
theorem pe_ix {r : R2} (hr : IxR X r) (ha : PE X a ta) (hb : PE X b tb) (hs : PlainIx b) : PE X (.Subscript a b pos) (tOp r ta tb) := by
  intro pins s σ H Q I h
  exact Subscript_ (binT ha hb I h fun v u s2 x y H2 I2 rx ry q => hr a b pins s2 σ H2 x y v u Q I2 rx ry q (hs _ _))

def rIxL (K : PySem.W.Frag) : R2 := fun x y H Q => ∃ p xs i v, x = .ref p ∧ y = .int i ∧ SqL K H p xs ∧ atI xs i = some v ∧ Q v H
def rIxT (K : PySem.W.Frag) : R2 := fun x y H Q => ∃ p xs i v, x = .ref p ∧ y = .int i ∧ SqT K H p xs ∧ atI xs i = some v ∧ Q v H
def rIxS : R2 := fun x y H Q => ∃ z i c, x = .str z ∧ y = .int i ∧ z.length ≤ sizeLine ∧ atI z.cps.toList i = some c ∧ Q (.str ⟨#[c]⟩) H
theorem ix_list : IxR X (rIxL X.K) := by
  intro value slice pins s σ H x y v u Q I rx ry h hs
  obtain ⟨p, xs, i, z, rfl, rfl, hq, he, q⟩ := h
  cases rx
  obtain ⟨t, rfl⟩ := ry
  obtain ⟨its, r, pl, hz⟩ := I.list hq
  obtain ⟨j, h1, h2, h3, h4, h5⟩ := atI_get he
  obtain ⟨w, ew, rw'⟩ := r.get h2
  have hl := r.length
  have hn := line63
  have fin : EP X pins σ Q w s := ⟨z, H, I, rw', q⟩
  by_cases h0 : 0 ≤ i
  · have hj : i.toNat = j := by
      rw [seqIndex_of h0 h5] at h1
      exact Option.some.inj h1
    exact item_listR pl.isList h0 (by omega) (by rw [hj]; simpa using ew) fin hs
  · have hj : (i + (its.toArray.size : Int)).toNat = j := by
      rw [seqIndex_neg (by omega) h4] at h1
      rw [List.size_toArray, ← hl]
      exact Option.some.inj h1
    exact subscriptTail_builtinR (x := w) pl.isList.typeIs slot_list_getitem.lookup
      (wpAny_getItem_list_neg (Q := fun r s' => r = w ∧ EP X pins σ Q r s') pl.isList (by omega) (by rw [List.size_toArray] <;> omega) (by omega) (by rw [hj]; simpa using ew) ⟨rfl, fin⟩) hs
theorem ix_tup : IxR X (rIxT X.K) := by
  intro value slice pins s σ H x y v u Q I rx ry h hs
  obtain ⟨p, xs, i, z, rfl, rfl, hq, he, q⟩ := h
  cases rx
  obtain ⟨t, rfl⟩ := ry
  obtain ⟨its, r, pl, hz⟩ := I.tuple hq
  obtain ⟨j, h1, h2, h3, h4, h5⟩ := atI_get he
  obtain ⟨w, ew, rw'⟩ := r.get h2
  have hl := r.length
  have hn := line63
  have fin : EP X pins σ Q w s := ⟨z, H, I, rw', q⟩
  exact subscriptTail_builtinR (x := w) pl.typeIs slot_tuple_getitem.lookup
    (getItem_tuple (j := j) (Q := fun r s' => r = w ∧ EP X pins σ Q r s') pl (by omega) (by omega) (by rw [List.size_toArray, ← hl]; exact h1) (by simpa using ew) ⟨rfl, fin⟩) hs
def rIx (K : PySem.W.Frag) : R2 := fun x y H Q => rIxL K x y H Q ∨ rIxT K x y H Q ∨ rIxS x y H Q
theorem mapSeq_set (its : List Value) (n j : Nat) (u : Value) : Obj.mapSeq (·.setIfInBounds j u) { cls := .type "list", data := .seq its.toArray n } = { cls := .type "list", data := .seq (its.set j u).toArray n } := by
  simp [Obj.mapSeq]
theorem Inv.lst {pins : List (Addr × Obj)} {σ : St} {H : Hp} {s : Shared} {p : Addr} {xs : List V} (I : Inv X pins σ H s) (h : H p = some (.lst xs)) :
    ∃ (its : List Value) (n : Nat), Vals xs its ∧ s.heap.get? p = some { cls := .type "list", data := .seq its.toArray n } ∧ xs.length ≤ sizeLine := by
  obtain ⟨z, its, n, r, e⟩ := I.hok p _ h
  exact ⟨its, n, r, e, z⟩

theorem Inv.lstUpd {pins : List (Addr × Obj)} {σ : St} {H : Hp} {s : Shared} {p : Addr} {xs ys : List V} {its its' : List Value} {n n' : Nat} {f : Obj → Obj} (I : Inv X pins σ H s) (h : H p = some (.lst xs))
    (ho : s.heap.get? p = some { cls := .type "list", data := .seq its.toArray n }) (hf : f { cls := .type "list", data := .seq its.toArray n } = { cls := .type "list", data := .seq its'.toArray n' }) (r : Vals ys its') (hz : ys.length ≤ sizeLine) (t : Nat) :
    Inv X pins σ (upd H p (.lst ys)) { s with heap := s.heap.update p f, toks := t } := by
  have e : (s.heap.update p f).get? p = some { cls := .type "list", data := .seq its'.toArray n' } := by
    rw [Heap.get?_update_self f ho (by rw [hf] <;> rfl), hf]
  refine I.write (x := p) (e := p) (by rw [h]; trivial) (.inl rfl) (fun b u hb q => (Heap.get?_update_other _ _ (Ne.symm hb)).trans q) ⟨_, e⟩ ?_
  exact ⟨hz, its', n', r, e⟩
def rSetL : V → V → V → Hp → (Hp → Prop) → Prop := fun o i v H Q => ∃ p xs k j, o = .ref p ∧ i = .int k ∧ H p = some (.lst xs) ∧ ixN xs.length k = some j ∧ Q (upd H p (.lst (xs.set j v)))
theorem set_list : PSet X rSetL := by
  intro pins s σ H o i v ov iv u Q I ro ri rv h
  obtain ⟨p, xs, k, j, rfl, rfl, hp, hj, q⟩ := h
  cases ro
  obtain ⟨t, rfl⟩ := ri
  obtain ⟨its, n, r, ho, hz⟩ := I.lst hp
  obtain ⟨h1, h2, h3, h4⟩ := ixN_seq hj
  have hl := r.length
  have hn := line63
  have I' : Inv X pins σ (upd H p (.lst (xs.set j v))) { s with heap := s.heap.update p (Obj.mapSeq (·.setIfInBounds j u)) } :=
    I.lstUpd hp ho (mapSeq_set its n j u) (r.set rv j) (by rw [List.length_set]; exact hz) s.toks
  by_cases h0 : 0 ≤ k
  · have hk : k.toNat = j := by
      rw [seqIndex_of h0 h4] at h1
      exact Option.some.inj h1
    exact PySem.W.ki_setAt ho h0 (by omega) (by rw [List.size_toArray, ← hl]; exact h4) (by rw [hk]; exact ⟨_, I', q⟩)
  · have hk : (k + (its.toArray.size : Int)).toNat = j := by
      rw [seqIndex_neg (by omega) h3] at h1
      rw [List.size_toArray, ← hl]
      exact Option.some.inj h1
    exact PySem.W.ki_setBack ho (by omega) (by rw [List.size_toArray, ← hl]; exact h3) (by omega) (by rw [hk]; exact ⟨_, I', q⟩)


theorem slice_bounds (lo hi : Option Int) (n : Nat) : (sliceBounds lo hi none n).1 = ((HT.sIx n 0 lo : Nat) : Int) ∧ (sliceBounds lo hi none n).2.1 = ((HT.sIx n n hi : Nat) : Int) ∧ (sliceBounds lo hi none n).2.2 = 1 := by
  refine ⟨?_, ?_, rfl⟩
  · cases lo with
    | none => simp [sliceBounds, HT.sIx]
    | some i =>
      simp only [sliceBounds, HT.sIx, Option.getD_none, show (1 : Int) > 0 by decide, if_true]
      by_cases h : i < 0
      · simp only [h, if_true] <;> omega
      · simp only [h, if_false] <;> omega
  · cases hi with
    | none => simp [sliceBounds, HT.sIx]
    | some i =>
      simp only [sliceBounds, HT.sIx, Option.getD_none, show (1 : Int) > 0 by decide, if_true]
      by_cases h : i < 0
      · simp only [h, if_true] <;> omega
      · simp only [h, if_false] <;> omega
theorem slicePick_cut (its : List Value) (lo hi : Option Int) : slicePick its.toArray lo hi none = ((its.drop (HT.sIx its.length 0 lo)).take (HT.sIx its.length its.length hi - HT.sIx its.length 0 lo)).toArray := by
  obtain ⟨h1, h2, h3⟩ := slice_bounds lo hi its.toArray.size
  unfold slicePick
  rw [h1, h2, h3]
  simp only [sliceRange_one, pick_run, List.size_toArray] <;> rfl

def rSlL (K : PySem.W.Frag) : V → Option Int → Option Int → Hp → VK → Prop := fun x lo hi H Q => ∃ a xs, x = .ref a ∧ SqL K H a xs ∧ ∀ p, H p = none → Q (.ref p) (upd H p (.lst (cutV xs lo hi)))
theorem sl_list : SlR X (rSlL X.K) := by
  intro pins s σ H x v vl vu lo hi sl Q I rx hs pl pu h
  obtain ⟨a, xs, rfl, hx, q⟩ := h
  cases rx
  obtain ⟨its, r, ht, hz⟩ := I.list hx
  have hlen := r.length
  refine ⟨"list", _, slot_list_getitem.lookup, ht.isList.typeIs, ?_⟩
  refine wpAny_getItem_list_slice ht.isList hs pl pu .none (by simp) ?_ (by rw [List.size_toArray] <;> omega)
  rw [slicePick_cut, ← hlen]
  refine ⟨.ref s.heap.objs.size, _, I.laid (t' := s.toks) (o := .lst (cutV xs lo hi)) (fun b ob q => Heap.get?_push_of_some _ q) (Nat.le_refl _) ?_, rfl, q _ (I.hok.fresh (Nat.le_refl _))⟩
  exact ⟨Nat.le_trans (cutV_length xs lo hi) hz, _, 0, (r.drop (HT.sIx xs.length 0 lo)).take (HT.sIx xs.length xs.length hi - HT.sIx xs.length 0 lo), Heap.get?_push_size _ rfl⟩


def flatV : V → Bool
  | .non => true
  | .bl _ => true
  | .int _ => true
  | .str _ => true
  | _ => false

def eqV : V → V → Bool
  | .non, .non => true
  | .bl a, .bl b => a == b
  | .bl a, .int b => (if a then 1 else 0) == b
  | .int a, .bl b => a == (if b then 1 else 0)
  | .int a, .int b => a == b
  | .str a, .str b => a == b
  | _, _ => false
def eqU (x : V) (u : Value) : Bool := match u with
  | .none => eqV .non x
  | .bool b => eqV (.bl b) x
  | .int i _ => eqV (.int i) x
  | .str z _ => eqV (.str z) x
  | _ => false
def inV (x : V) (xs : List V) : Bool := xs.any fun y => eqV y x

def rIn (K : PySem.W.Frag) (neg : Bool) : R2 := fun x y H Q => ∃ p xs, y = .ref p ∧ (SqL K H p xs ∨ SqT K H p xs) ∧ flatV x = true ∧ xs.all flatV = true ∧ Q (.bl (if neg then !inV x xs else inV x xs)) H
theorem call_len_seq : CallR X (.builtin "len") (fun xs H Q => ∃ p ys, xs = [.ref p] ∧ (SqL X.K H p ys ∨ SqT X.K H p ys) ∧ Q (.int ys.length) H) := by
  intro pins s σ H xs us Q I r h
  obtain ⟨p, ys, rfl, hq, q⟩ := h
  obtain ⟨u, rfl, rx⟩ := vals1 r
  cases rx
  have hn := line63
  rcases hq with hq | hq
  · obtain ⟨its, r', pl, hz⟩ := I.list hq
    have hlen := r'.length
    exact Calls.call_len_list pl.isList (by simp only [List.size_toArray] <;> omega) ⟨.int ys.length, H, I.tok _, ⟨s.toks + 1, by rw [List.size_toArray, hlen]⟩, q⟩
  · obtain ⟨its, r', pl, hz⟩ := I.tuple hq
    have hlen := r'.length
    exact len_tuple pl (by simp only [List.size_toArray] <;> omega) ⟨.int ys.length, H, I.tok _, ⟨s.toks + 1, by rw [List.size_toArray, hlen]⟩, q⟩
theorem call_list_of : CallR X (.type "list") (fun xs H Q => ∃ p ys, xs = [.ref p] ∧ (SqL X.K H p ys ∨ SqT X.K H p ys) ∧ ∀ l, H l = none → Q (.ref l) (upd H l (.lst ys))) := by
  intro pins s σ H xs us Q I r h
  obtain ⟨p, ys, rfl, hq, q⟩ := h
  obtain ⟨u, rfl, rx⟩ := vals1 r
  cases rx
  have fin : ∀ (its : List Value), Vals ys its → ys.length ≤ sizeLine → ∀ (h' : Heap) (c' : Nat), (∀ b o', s.heap.get? b = some o' → h'.get? b = some o') →
      h'.get? s.heap.objs.size = some { cls := .type "list", dict := none, data := .seq its.toArray c', slots := #[] } → EP X pins σ Q (.ref s.heap.objs.size) { s with heap := h' } := fun its r' hz h' c' kp e =>
    ⟨.ref s.heap.objs.size, _, I.laid (t' := s.toks) kp (Nat.le_refl _) (show ObjOk X.prog X.w _ h' _ (.lst ys) from ⟨hz, its, c', r', e⟩), rfl, q _ (I.hok.fresh (Nat.le_refl _))⟩
  rcases hq with hq | hq
  · obtain ⟨its, r', pl, hz⟩ := I.list hq
    have hlen := r'.length
    obtain ⟨o, ho, hc, n, hd⟩ := pl.isList
    exact call_list_seq p (.inl rfl) ho hc hd (fun h' c' kp e => fin its r' hz h' c' kp e) (by simp only [List.size_toArray] <;> omega)
  · obtain ⟨its, r', pl, hz⟩ := I.tuple hq
    have hlen := r'.length
    obtain ⟨o, ho, hc, n, hd⟩ := pl
    exact call_list_seq p (.inr rfl) ho hc hd (fun h' c' kp e => fin its r' hz h' c' kp e) (by simp only [List.size_toArray] <;> omega)
theorem call_tuple_of : CallR X (.type "tuple") (fun xs H Q => ∃ p ys, xs = [.ref p] ∧ ((SqL X.K H p ys ∧ ∀ l, H l = none → Q (.ref l) (upd H l (.tup ys))) ∨ (SqT X.K H p ys ∧ Q (.ref p) H))) := by
  intro pins s σ H xs us Q I r h
  obtain ⟨p, ys, rfl, h⟩ := h
  obtain ⟨u, rfl, rx⟩ := vals1 r
  cases rx
  rcases h with ⟨hq, q⟩ | ⟨hq, q⟩
  · obtain ⟨its, r', pl, hz⟩ := I.list hq
    have hlen := r'.length
    refine call_tuple_list pl.isList (fun h' kp => ?_) (by simp only [List.size_toArray] <;> omega)
    have I1 : Inv X pins σ H { s with heap := h' } := I.kept (t' := s.toks) kp
    have I2 : Inv X pins σ (upd H h'.objs.size (.tup ys)) { s with heap := h'.push { cls := .type "tuple", data := .seq its.toArray } } :=
      I1.laid (t' := s.toks) (fun b o e => Heap.get?_push_of_some _ e) (Nat.le_refl _) (show ObjOk X.prog X.w _ _ _ (.tup ys) from ⟨hz, its, r', IsTupN.new _ _⟩)
    exact ⟨.ref h'.objs.size, _, I2, rfl, q _ (I1.hok.fresh (Nat.le_refl _))⟩
  · obtain ⟨its, r', pl, hz⟩ := I.tuple hq
    exact call_tuple_same pl ⟨.ref p, H, I, rfl, q⟩



def tyV (K : PySem.W.Frag) (T : String) (x : V) (H : Hp) : Prop := match x with
  | .str _ => T = "str"
  | .int _ => T = "int"
  | .ref p => (T = "list" ∧ ∃ xs, SqL K H p xs) ∨ (T = "tuple" ∧ ∃ o, K.lookup p = some o ∧ o.cls = .type "tuple" ∧ o.dict = none) ∨
      (T = "dict" ∧ ((∃ kvs, H p = some (.dK kvs)) ∨ ∃ kvs, H p = some (.dT kvs))) ∨ (T = "set" ∧ ∃ S n, H p = some (.set S n))
  | _ => False
theorem tyV_is {pins : List (Addr × Obj)} {σ : St} {H : Hp} {s : Shared} {T : String} {x : V} {v : Value} (I : Inv X pins σ H s) (r : RelV x v) (ty : tyV X.K T x H) :
    s.TypeIs v T ∧ ∀ a, v = .ref a → ∃ ob, s.heap.get? a = some ob ∧ ob.dict = none := by
  cases x with
  | str z =>
    obtain ⟨t, rfl⟩ := r
    cases (show T = "str" from ty)
    exact ⟨typeIs_str s z t, fun _ e => nomatch e⟩
  | int i =>
    obtain ⟨t, rfl⟩ := r
    cases (show T = "int" from ty)
    exact ⟨typeIs_int s i t, fun _ e => nomatch e⟩
  | ref p =>
    cases r
    rcases ty with ⟨rfl, xs, hq⟩ | ⟨rfl, o, hk, hc, hd⟩ | ⟨rfl, hk⟩ | ⟨rfl, S, n, hk⟩
    · obtain ⟨its, _, pl, _⟩ := I.list hq
      refine ⟨pl.isList.typeIs, fun a e => ?_⟩
      cases e
      obtain ⟨o, n, e, c, hd, _⟩ := pl
      exact ⟨o, e, hd⟩
    · refine ⟨⟨o, I.kIn p o hk, hc⟩, fun a e => ?_⟩
      cases e
      exact ⟨o, I.kIn _ o hk, hd⟩
    · have z : ∃ o, s.heap.get? p = some o ∧ o.ExactDict := by
        rcases hk with ⟨kvs, hk⟩ | ⟨kvs, hk⟩
        · obtain ⟨_, _, _, _, o, _, _, e, ex, _⟩ := I.hok p _ hk
          exact ⟨o, e, ex⟩
        · obtain ⟨_, _, _, _, o, _, _, e, ex, _⟩ := I.hok p _ hk
          exact ⟨o, e, ex⟩
      obtain ⟨o, e, ex⟩ := z
      refine ⟨⟨o, e, ex.1⟩, fun a e2 => ?_⟩
      cases e2
      exact ⟨o, e, ex.2.1⟩
    · obtain ⟨o, _, _, _, e, ex, _⟩ := I.hok p _ hk
      refine ⟨⟨o, e, ex.1⟩, fun a e2 => ?_⟩
      cases e2
      exact ⟨o, e, ex.2.1⟩
  | _ => exact False.elim ty
def tBM0 (K : PySem.W.Frag) (T : String) (r : V → List V → Hp → VK → Prop) (to : TE) : TE := fun σ H Q => to σ H fun x H1 => tyV K T x H1 ∧ r x [] H1 Q
def tBM (K : PySem.W.Frag) (T : String) (r : V → List V → Hp → VK → Prop) (to : TE) (t : TA) : TE := fun σ H Q => to σ H fun x H1 => tyV K T x H1 ∧ t σ H1 fun xs H2 => r x xs H2 Q
variable {o e : Expr} {es : List Expr} {to : TE} {t : TA} {name : Str} {apos cpos : Pos} {T id : String} {r : V → List V → Hp → VK → Prop}
theorem pe_bm (pa : PlainAttrs T) (slot : Slot T name id) (hty : typeOf (.builtin id) = pure (.type "method_descriptor")) (hm : MtR X id r) (ho : PE X o to) (ha : PA X (e :: es) t)
    (hbase : attributeBase o name X.env (eval o X.env) = eval o X.env := by rfl)
    (hfew : ((backTo cpos (starEach (e :: es) X.env)).all (fun x => !x.1) && (backToKw cpos (keywordEach [] X.env)).all (fun x => x.1.isSome)
      && decide ((e :: es).length + ([] : List Keyword).length + (if ([] : List Keyword).isEmpty then 0 else 1) < 30)) = true := by rfl)
    (hline : (apos.endLine == cpos.line) = true := by rfl) (hs : starEach (e :: es) X.env = (false, eval e X.env) :: starEach es X.env := by rfl) (hplain : (backTo cpos (starEach es X.env)).any (·.1) = false := by rfl) :
    PE X (.Call (.Attribute o name apos) (e :: es) [] cpos) (tBM X.K T r to t) := by
  intro pins s σ H Q I h
  refine wpAny_Call_method_late hbase hfew hline rfl (thn (ho pins s σ H _ I h) fun v s1 ⟨x, H1, I1, r1, ty, q1⟩ => ?_)
  obtain ⟨h1, h2⟩ := tyV_is I1 r1 ty
  refine ⟨T, id, pa, slot, hty, h1, h2, ?_⟩
  have hA := ha cpos pins s1 σ H1 _ I1 q1
  rw [hs] at hA ⊢
  refine Calls.callWith_builtin (by show (false || (backTo cpos (starEach es X.env)).any (·.1)) = false; rw [hplain] <;> rfl) (Calls.evalArgs_plain ?_)
  exact thn hA fun us s2 ⟨vs, H2, I2, r2, q2⟩ => hm pins s2 σ H2 x vs v us Q I2 r1 r2 q2

end
end L2

namespace L2
open PySem PySem.Spec PyProof.Rows

def MtM (X : Cx) (id : String) (r : V → List V → Hp → VK → Prop) : Prop :=
  ∀ (pins : List (Addr × Obj)) (s : Shared) (σ : St) (H : Hp) (x : V) (xs : List V) (v : Value) (us : List Value) (Q : VK), Inv X pins σ H s → RelV x v → Vals xs us → r x xs H Q →
    wpAny (model X.prog X.w) X.A (call (.builtin id) (v :: us)) (EP X pins σ Q) X.xe s


theorem Vals.one : ∀ {x : V} {us : List Value}, Vals [x] us → ∃ u, us = [u] ∧ RelV x u
  | _, _, .cons r .nil => ⟨_, rfl, r⟩
theorem Vals.zero : ∀ {us : List Value}, Vals [] us → us = []
  | _, .nil => rfl
theorem Vals.dropLast {xs : List V} {us : List Value} (h : Vals xs us) : Vals xs.dropLast us.dropLast := by
  induction h with
  | nil => exact .nil
  | cons r t ih =>
    cases t with
    | nil => exact .nil
    | cons q t' => exact .cons r ih
theorem Vals.eraseIdx : ∀ {xs : List V} {us : List Value} (i : Nat), Vals xs us → Vals (xs.eraseIdx i) (us.eraseIdx i)
  | _, _, _, .nil => .nil
  | _, _, 0, .cons _ t => t
  | _, _, i + 1, .cons r t => .cons r (Vals.eraseIdx i t)
theorem Vals.reverse {xs : List V} {us : List Value} (h : Vals xs us) : Vals xs.reverse us.reverse := by
  induction h with
  | nil => exact .nil
  | cons r t ih => rw [List.reverse_cons, List.reverse_cons]; exact Vals.append ih (.cons r .nil)
theorem Vals.rep {xs : List V} {us : List Value} (h : Vals xs us) : ∀ k : Nat, Vals (List.replicate k xs).flatten (List.replicate k us).flatten
  | 0 => .nil
  | k + 1 => by
    rw [List.replicate_succ, List.replicate_succ, List.flatten_cons, List.flatten_cons]
    exact Vals.append h (Vals.rep h k)
theorem len_erase {α : Type} : ∀ (l : List α) (i : Nat), (l.eraseIdx i).length ≤ l.length
  | [], _ => Nat.le_refl _
  | _ :: _, 0 => Nat.le_succ _
  | _ :: r, i + 1 => Nat.succ_le_succ (len_erase r i)
theorem foldl_rep (its : List Value) : ∀ (k : Nat) (acc : List Value),
    List.foldl (fun x1 x2 => x1 ++ x2) acc.toArray (List.replicate k its.toArray) = (acc ++ (List.replicate k its).flatten).toArray
  | 0, acc => by simp
  | k + 1, acc => by
    have e : acc.toArray ++ its.toArray = (acc ++ its).toArray := by simp
    have e2 : (acc ++ its) ++ (List.replicate k its).flatten = acc ++ (List.replicate (k + 1) its).flatten := by
      rw [List.replicate_succ, List.flatten_cons, List.append_assoc]
    rw [← e2, ← foldl_rep its k (acc ++ its), ← e, List.replicate_succ, List.foldl_cons]

section
variable {X : Cx} {pins : List (Addr × Obj)} {σ : St} {H : Hp} {s : Shared} {l b : Addr} {xs ys zs : List V}


theorem Inv.lset {its its' : List Value} {n : Nat} {f : Array Value → Array Value} {t' : Nat} (I : Inv X pins σ H s) (hH : H l = some (.lst xs))
    (e : s.heap.get? l = some { cls := .type "list", data := .seq its.toArray n }) (hf : f its.toArray = its'.toArray) (hv : Vals ys its') (hz : ys.length ≤ sizeLine) :
    Inv X pins σ (upd H l (.lst ys)) { s with heap := s.heap.update l (Obj.mapSeq f), toks := t' } := by
  have q := PySem.IsL.update e f
  rw [hf] at q
  refine I.write (x := l) (e := l) (by rw [hH]; exact trivial) (.inl rfl) (fun b' u hb hu => (Heap.get?_update_other s.heap (Obj.mapSeq f) (Ne.symm hb)).trans hu) ⟨_, q⟩ ?_
  exact ⟨hz, its', _, hv, q⟩
theorem Inv.lnew {its : List Value} {t' : Nat} (I : Inv X pins σ H s) (hv : Vals ys its) (hz : ys.length ≤ sizeLine) :
    Inv X pins σ (upd H s.heap.objs.size (.lst ys)) { s with heap := s.heap.push { cls := .type "list", data := .seq its.toArray }, toks := t' } :=
  I.laid (fun _ _ q => Heap.get?_push_of_some _ q) (Nat.le_refl _) ⟨hz, its, 0, hv, Heap.get?_push_size _ rfl⟩
theorem Inv.fresh (I : Inv X pins σ H s) : H s.heap.objs.size = none := I.hok.fresh (Nat.le_refl _)
theorem Inv.lstM (I : Inv X pins σ H s) (hH : H l = some (.lst xs)) : xs.length ≤ sizeLine ∧ ∃ (its : List Value) (n : Nat), Vals xs its ∧ xs.length = its.length ∧ s.heap.get? l = some { cls := .type "list", data := .seq its.toArray n } := by
  obtain ⟨z, its, n, r, e⟩ := I.hok l _ hH
  exact ⟨z, its, n, r, r.length, e⟩

theorem notLongL {n : Nat} (h : n ≤ sizeLine) : Builtin.List.listTooLong n = false := by
  unfold Builtin.List.listTooLong
  exact decide_eq_false (by omega)
end

section
variable {X : Cx}


def rAppend : V → List V → Hp → VK → Prop := fun x vs H Q => ∃ l xs y, x = .ref l ∧ vs = [y] ∧ H l = some (.lst xs) ∧ xs.length < sizeLine ∧ Q .non (upd H l (.lst (xs ++ [y])))
theorem mt_append : MtM X "list.append" rAppend := by
  intro pins s σ H x vs v us Q I rx rv h
  obtain ⟨l, xs, y, rfl, rfl, hH, hz, q⟩ := h
  cases rx
  obtain ⟨u, rfl, ru⟩ := rv.one
  obtain ⟨z, its, n, r, hl, e⟩ := I.lstM hH
  refine call_meets F.slot_list_append ⟨_, e, rfl⟩ F.entry_list_append (F.args_list_append_2 _ _) (PySem.list_append l its.toArray n u (by rw [List.size_toArray]; omega)) ⟨e, ?_⟩
  refine ⟨.non, _, I.lset (its' := its ++ [u]) hH e (by simp) (r.append (.cons ru .nil)) ?_, rfl, q⟩
  rw [List.length_append, List.length_singleton]
  omega

def rExtend : V → List V → Hp → VK → Prop := fun x vs H Q => ∃ l b xs zs, x = .ref l ∧ vs = [.ref b] ∧ H l = some (.lst xs) ∧ H b = some (.lst zs) ∧ xs.length + zs.length ≤ sizeLine ∧ Q .non (upd H l (.lst (xs ++ zs)))
def rPop : V → List V → Hp → VK → Prop := fun x vs H Q => ∃ l xs y, x = .ref l ∧ vs = [] ∧ H l = some (.lst xs) ∧ xs[xs.length - 1]? = some y ∧ Q y (upd H l (.lst xs.dropLast))
def rPopAt : V → List V → Hp → VK → Prop := fun x vs H Q => ∃ l xs i k y, x = .ref l ∧ vs = [.int i] ∧ H l = some (.lst xs) ∧ -(2 ^ 63) ≤ i ∧ i < 2 ^ 63 ∧ seqIndex? i xs.length = some k ∧ xs[k]? = some y ∧ Q y (upd H l (.lst (xs.eraseIdx k)))
theorem mt_popAt : MtM X "list.pop" rPopAt := by
  intro pins s σ H x vs v us Q I rx rv h
  obtain ⟨l, xs, i, k, y, rfl, rfl, hH, h1, h2, hk, hy, q⟩ := h
  cases rx
  obtain ⟨u, rfl, ru⟩ := rv.one
  obtain ⟨t, rfl⟩ := ru
  obtain ⟨z, its, n, r, hl, e⟩ := I.lstM hH
  obtain ⟨w, hw, rw'⟩ := r.get hy
  refine call_meets F.slot_list_pop ⟨_, e, rfl⟩ F.entry_list_pop (F.args_list_pop_2 _ _)
    (MeetsSeq.list_pop_at l its.toArray n i t k w (fitsIndex_both h1 h2) (by rw [List.size_toArray, ← hl]; exact hk) (by rw [← Array.getElem?_toList]; exact hw) (by rw [List.size_toArray]; omega)) ⟨e, ?_⟩
  refine ⟨y, _, I.lset (its' := its.eraseIdx k) hH e ?_ (r.eraseIdx k) ?_, rw', q⟩
  · show its.toArray.eraseIdxIfInBounds k = (its.eraseIdx k).toArray
    rw [List.eraseIdxIfInBounds_toArray]
  · have := len_erase xs k
    omega

def rReverse : V → List V → Hp → VK → Prop := fun x vs H Q => ∃ l xs, x = .ref l ∧ vs = [] ∧ H l = some (.lst xs) ∧ Q .non (upd H l (.lst xs.reverse))
def rClear : V → List V → Hp → VK → Prop := fun x vs H Q => ∃ l xs, x = .ref l ∧ vs = [] ∧ H l = some (.lst xs) ∧ Q .non (upd H l (.lst []))
def rCat : R2 := fun x y H Q => ∃ l b xs zs, x = .ref l ∧ y = .ref b ∧ H l = some (.lst xs) ∧ H b = some (.lst zs) ∧ xs.length + zs.length ≤ sizeLine ∧ ∀ p, H p = none → Q (.ref p) (upd H p (.lst (xs ++ zs)))
def rRep : R2 := fun x y H Q => ∃ l k xs, x = .ref l ∧ y = .int k ∧ H l = some (.lst xs) ∧ -(2 ^ 63) ≤ k ∧ k < 2 ^ 63 ∧ xs.length * k.toNat ≤ sizeLine ∧
  ∀ p, H p = none → Q (.ref p) (upd H p (.lst (List.replicate k.toNat xs).flatten))
theorem len_rep {α : Type} (xs : List α) (k : Nat) : (List.replicate k xs).flatten.length = k * xs.length := by
  induction k with
  | zero => simp
  | succ k ih => rw [List.replicate_succ, List.flatten_cons, List.length_append, ih, Nat.succ_mul, Nat.add_comm]
theorem op_rep : OpR X (binaryOp .Mult) rRep := by
  intro pins s σ H x y v u Q I rx ry h
  obtain ⟨l, k, xs, rfl, rfl, hH, h1, h2, hz, q⟩ := h
  cases rx
  obtain ⟨t, rfl⟩ := ry
  obtain ⟨z, its, n, r, hl, e⟩ := I.lstM hH
  have hlen : its.toArray.size * k.toNat ≤ sizeLine := by rw [List.size_toArray, ← hl]; exact hz
  have hcap : ¬ its.toArray.size * k.toNat > (2 ^ 63 - 1) / 8 := by
    have : (sizeLine : Nat) ≤ (2 ^ 63 - 1) / 8 := by decide
    omega
  have hfit : ¬ (!Builtin.List.listFitsIndex k) = true := by
    rw [fitsIndex_both h1 h2]
    exact Bool.false_ne_true
  have hlong : ¬ Builtin.List.listTooLong (its.toArray.size * k.toNat) = true := by
    rw [notLongL hlen]
    exact Bool.false_ne_true
  have hnew : List.foldl (fun x1 x2 => x1 ++ x2) #[] (List.replicate (if its.toArray.isEmpty = true then 0 else k.toNat) its.toArray) = (List.replicate k.toNat its).flatten.toArray := by
    have f0 : ∀ m : Nat, List.foldl (fun x1 x2 => x1 ++ x2) #[] (List.replicate m its.toArray) = (List.replicate m its).flatten.toArray := fun m => by
      have := foldl_rep its m []
      rw [List.nil_append] at this
      exact this
    rw [f0]
    cases its with
    | nil => simp
    | cons a r' => rw [if_neg (by simp)]
  refine wpAny_binaryOp_repeat_ref (T := "list") (U := "int") (by decide) ⟨_, e, rfl⟩ (fun s' => typeIs_int s' k t) noFill_list_mul F.fills_int_mul F.slot_int_rmul repeat_list F.slot_int_index.lookup
    (call_meets F.slot_int_rmul (typeIs_int s k t) F.entry_int_rmul (F.args_int_rmul_2 _ _) (int___rmul___int_list k t l its.toArray n)
      ⟨e, rfl, ⟨_, e, rfl⟩, call_meets F.slot_list_mul ⟨_, e, rfl⟩ F.entry_list_mul (F.args_list_mul_2 _ _) (AutoListH.list___mul___list_int_3 l its.toArray n k t hfit hcap hlong) ⟨e, ?_⟩⟩)
  rw [hnew]
  exact ⟨.ref _, _, I.lnew (t' := s.toks) (r.rep k.toNat) (by rw [len_rep, Nat.mul_comm]; exact hz), rfl, q _ I.fresh⟩


end


section
variable {prog : Program} {w : World} {A : Around} {E : Value → Shared → Prop} {s : Shared}
end

section
variable {X : Cx}

end
end L2

namespace Att
open PySem PySem.W PySem.Calls PyProof.Rows


theorem ints_of_wellAll {P : Params} {h : Heap} : ∀ (ns : List Int) (vs : List Value), WellAll P h vs (ns.map WData.int) → IntsAre vs ns := by
  intro ns
  induction ns with
  | nil =>
    intro vs w
    rw [List.map_nil] at w
    cases w
    exact .nil
  | cons n ns ih =>
    intro vs w
    rw [List.map_cons] at w
    cases w with
    | cons a b =>
      cases a
      exact .cons _ _ (ih _ b)

theorem script_of {l : OpenLaw} {n : Nat} (hn : l.most = some n) {P : Params} {h : Heap} {args : List WData} {vals : List Value}
    (hpre : l.row.toRowW.claim.pre args = true) (hwl : WellAll P h vals args) :
    ∃ a vs ns, vals = [Value.ref a] ∧ args = [WData.list (ns.map WData.int)] ∧ h.get? a = some { cls := .type "list", data := .seq vs.toArray } ∧ IntsAre vs ns ∧ ns.length ≤ n := by
  have hsh : WShape.hasAll [] args [.list .int] = true := (pre_splitW hpre).1
  have hc : l.pre.holds [] { args := args } = true := (pre_splitW hpre).2
  obtain ⟨d, r, rfl, h1, h2⟩ := hasAllW_cons hsh
  obtain rfl := hasAllW_nil h2
  obtain ⟨xs, rfl, h3⟩ := hasW_list h1
  obtain ⟨ns, rfl⟩ := items_int h3
  have hlen : ns.length ≤ n := by
    unfold OpenLaw.pre at hc
    have h4 : (WTm.not (.lt (.lit (.int (n : Int))) (.len (.arg 0)))).holds [] { args := [.list (ns.map .int)] } = true := by
      have h4 := (holds_andW hc).1
      rw [hn] at h4
      exact h4
    have h5 := condW_of h4 (w_not (w_lt w_lit (w_len_list (w_arg rfl))))
    rw [List.length_map] at h5
    refine Nat.le_of_not_lt fun q => ?_
    have q' : (n : Int) < ((ns.length : Nat) : Int) := by omega
    first
      | (rw [decide_eq_true q'] at h5; exact absurd h5 (by decide))
      | (simp at h5; omega)
  cases hwl with
  | cons w1 w2 =>
    cases w2
    cases w1 with
    | list ho hall => exact ⟨_, _, ns, rfl, rfl, ho, ints_of_wellAll ns _ hall, hlen⟩

theorem post_true (l : OpenLaw) (args : List WData) : l.row.toRowW.claim.post args (.bool true) args = true :=
  postW_of (r := l.row.toRowW) (X := (true == true))
    (show WShape.has [] (.bool true) .bool = true by first | rfl | decide | simp [WShape.has, WShape.arms, WShape.armsAll])
    (show (WTm.eq .res (.lit (.bool true))).value [] { args := args, res := some (.bool true), after := args } = some (.bool (true == true)) from w_eq_bool (w_res rfl) w_lit) rfl


section
variable {prog : Program} {w : World} {A : Around} {E : Value → Shared → Prop} {s : Shared} {K : Frag}


def noObjs (h : Heap) : Heap := { h with objs := #[] }
def ledger (h : Heap) (L d : Addr) : List (Addr × Obj) := (List.range h.objs.size).filterMap fun a => if a = L ∨ a = d then none else (h.get? a).map fun o => (a, o)
end
end Att

namespace L2
open PySem PySem.Spec PyProof.Rows

theorem vals_ints : ∀ {vs : List Value} {ns : List Int}, IntsAre vs ns → Vals (ns.map V.int) vs
  | _, _, .nil => .nil
  | _, _, .cons n t h => .cons ⟨t, rfl⟩ (vals_ints h)


def Only (H : Hp) : Prop := ∀ b, H b = none ∨ ∃ o xs, H b = some (.frz o (.lst xs))


theorem law_call {P : Program} {w : World} {K : PySem.W.Frag} {mg mb : Str → Option Value} {CX : CXT} {k : Nat} {fa a : Addr} {fd : FuncData} {x : Str} {sp : Sp} {s₁ : Shared} {vs : List Value} {ns : List Int}
    (KX : K.In s₁.heap) (hns : s₁.heap.Ns mainGlobals mg) (hb : s₁.heap.Ns builtinsNs mb) (hbb : ∀ x : Str, x ≠ "__name__" → mb x = bootBuiltins x) (hlim : s₁.heap.NoLimit) (hg : s₁.gens = #[])
    (ha : s₁.heap.get? a = some { cls := .type "list", data := .seq vs.toArray }) (hi : IntsAre vs ns) (hl : ns.length ≤ sizeLine) (hr : Room k callerA)
    (F : ∀ base : Heap, K.In base → base.Ns mainGlobals mg → FnOk P w K mg base CX k fa fd [x] sp) (hbind : ∀ (s : Shared) (u : Value), BindsTo s fd ⟨[u], []⟩ [(x, u)])
    (hsp : ∀ H : Hp, Only H → SqL K H a (ns.map V.int) → sp [.ref a] H (fun v _ => v = .bl true) fun _ _ _ => False)
    (hCX : ∀ H e s', CX [] H s₁ (fun _ _ _ => False) e s' → False) :
    codeAny (model P w) callerA (.call (.ref fa) ⟨[.ref a], []⟩) (fun r s' => r = .ok (.ret (.bool true)) ∧ OldK s₁.heap s'.heap ∧ s'.os = s₁.os ∧ AllBare s'.gens) s₁ := by
  have rv := vals_ints hi
  have lenV := hi.length
  have core : ∀ H : Hp, Only H → SqL K H a (ns.map V.int) → HOk P w H s₁.heap → (∀ b, H b ≠ none → b = a) → (H a ≠ none → K.lookup a = none) →
      codeAny (model P w) callerA (.call (.ref fa) ⟨[.ref a], []⟩) (fun r s' => r = .ok (.ret (.bool true)) ∧ OldK s₁.heap s'.heap ∧ s'.os = s₁.os ∧ AllBare s'.gens) s₁ := by
    intro H hO hS hok hA hK
    have base_of : ∀ {b : Addr} {o : Obj}, s₁.heap.get? b = some o → H b = none → (hidT s₁.heap H).get? b = some o := fun e n => hidT_get e n
    have noA : ∀ {b : Addr} {o : Obj} {es : Array DictEntry} {ep : Nat}, s₁.heap.get? b = some o → o.data = .dict es ep → H b = none := fun {b o es ep} e d => by
      cases q : H b with
      | none => rfl
      | some u =>
        have e' : b = a := hA b (by rw [q]; simp)
        subst e'
        rw [ha] at e; cases e
        have d' : Data.seq vs.toArray _ = Data.dict es ep := d
        cases d'
    have nsK : ∀ {b : Addr} {m : Str → Option Value}, s₁.heap.Ns b m → (hidT s₁.heap H).Ns b m := fun {b m} ⟨o, es, ep, e, d, r⟩ => ⟨o, es, ep, base_of e (noA e d), d, r⟩
    have hKb : K.In (hidT s₁.heap H) := fun b o e => base_of (KX b o e) (by
      cases q : H b with
      | none => rfl
      | some u =>
        have e' : b = a := hA b (by rw [q]; simp)
        subst e'
        rw [hK (by rw [q]; simp)] at e; cases e)
    have hM : Mod K mg (hidT s₁.heap H) := ⟨hKb, nsK hns, ⟨mb, nsK hb, hbb⟩, let ⟨mc, h1, h2⟩ := hlim; ⟨mc, nsK h1, h2⟩⟩
    have e0 : Env0 P w K mg (hidT s₁.heap H) callerA [] s₁ H := ⟨rfl, hM, fun b o e => of_hidT e, Nat.le_of_eq (hidT_size _ _), trivial, fun b hb => absurd (show b ∈ ([] : List Addr) from hb) (by simp), hok, .of_eq hg⟩
    refine codeAny_mono ((F _ hKb (nsK hns)).run callerA [] s₁ H ⟨[.ref a], []⟩ [.ref a] [.ref a] _ _ hr e0 (hbind s₁ (.ref a)) (.cons rfl .nil) (hsp H hO hS)) fun r s' h => ?_
    cases r with
    | error e => exact (hCX H e s' h).elim
    | ok fl =>
      cases fl with
      | next => exact False.elim h
      | brk => exact False.elim h
      | cont => exact False.elim h
      | ret u =>
        obtain ⟨v, H', os, bare, un, hok', r', q⟩ := h
        have q' : v = .bl true := q
        subst q'
        obtain rfl : u = Value.bool true := r'
        refine ⟨rfl, OldK.of_keep fun b o e => ?_, os, bare⟩
        cases q : H b with
        | none => exact un.keep b o e q (by intro z; exact absurd (show b ∈ ([] : List Addr) from z) (by simp)) (by simp)
        | some u =>
          rcases hO b with z | ⟨ob, xs, z⟩
          · rw [q] at z; cases z
          · have z2 := un.frzs b ob _ z
            obtain ⟨e1, _⟩ := hok b _ z
            obtain ⟨e2, _⟩ := hok' b _ z2
            rw [e] at e1; cases e1
            exact e2
  cases hk : K.lookup a with
  | some o =>
    have e := KX a o hk
    rw [ha] at e
    cases e
    refine core (fun _ => none) (fun _ => .inl rfl) (.inr ⟨_, vs.toArray, _, hk, rfl, rfl, rfl, by rw [List.size_toArray, lenV]; exact hl, by simpa using rv⟩) (fun b u z => by have z' : (none : Option HO) = some u := z; cases z') (fun b z => absurd rfl z) fun z => absurd rfl z
  | none =>
    refine core (fun b => if b = a then some (.frz { cls := .type "list", data := .seq vs.toArray } (.lst (ns.map V.int))) else none) (fun b => ?_) (.inl (.inr ⟨{ cls := .type "list", data := .seq vs.toArray }, if_pos rfl⟩)) (fun b u z => ?_) (fun b z => ?_) fun _ => hk
    · by_cases hb : b = a
      · exact .inr ⟨_, _, if_pos hb⟩
      · exact .inl (if_neg hb)
    · by_cases hb : b = a
      · have z' := (if_pos hb).symm.trans z
        cases z'
        subst hb
        exact ⟨ha, by rw [List.length_map]; exact hl, vs, _, rv, ha⟩
      · have z' := (if_neg hb).symm.trans z
        cases z'
    · by_cases hb : b = a
      · exact hb
      · exact absurd (if_neg hb) z
end L2

namespace L2
open PySem PySem.Spec PyProof.Rows

abbrev KOf {K : PySem.W.Frag} {h : Heap} (_ : K.In h) : PySem.W.Frag := K


end L2




namespace L2
open PySem PySem.Spec PyProof.Rows



def inClass (s : Stmt) (j : Nat) : Stmt := match s with
  | .ClassDef _ _ _ body _ _ _ _ _ _ _ => body.getD j (.Pass ⟨0, 0, 0, 0⟩)
  | _ => .Pass ⟨0, 0, 0, 0⟩
def defArgs (s : Stmt) : Arguments := match s with
  | .FunctionDef _ a _ _ _ _ _ _ _ _ => a
  | _ => { posonlyargs := [], args := [], vararg := none, kwonlyargs := [], kw_defaults := [], kwarg := none, defaults := [] }
def defBody (s : Stmt) : List Stmt := match s with
  | .FunctionDef _ _ b _ _ _ _ _ _ _ => b
  | _ => []
def defScope (s : Stmt) : Scope := match s with
  | .FunctionDef _ _ _ _ _ _ sc _ _ _ => sc
  | _ => { kind := .function, names := [], isGenerator := false, isCoroutine := false }


abbrev CX0 : CXT := fun _ _ _ _ _ _ => False
abbrev E0 : XK := fun _ _ _ => False
theorem pass0 {X : Cx} : Passes CX0 X E0 := fun _ _ _ _ _ _ _ h => h.elim


structure Fun (K : PySem.W.Frag) (x qual : Str) (st : Stmt) (f : Addr) (fd : FuncData) : Prop where
  ex : ∃ (oc : Value) (od : Option Addr) (kV doc pm : Value) (an : Option Addr) (cdv ct : Value) (osl : Array (Option Value)),
    fd = PySem.W.fnOf x qual (defArgs st) (defBody st) (defScope st) .none kV doc pm an cdv ct ∧ K.lookup f = some ⟨oc, od, .func fd, osl⟩ ∧ PySem.W.codeIn K cdv qual = true
  kp : PySem.W.keepIn K (.ref f) = true
section
variable {P : Program} {w : World} {K : PySem.W.Frag} {mg : Str → Option Value} {base : Heap}

theorem Fun.ok {x qual : Str} {st : Stmt} {f : Addr} {fd : FuncData} {N ps : List Str} {k : Nat} {sp : Sp} (F : Fun K x qual st f fd) (S : FnScope N ps (defScope st)) (len : ∀ vs H Q E, sp vs H Q E → vs.length = ps.length)
    (hbody : ∀ (cdv : Value) (A : Around) (outer : List Env) (s : Shared) (H : Hp) (vs : List V) (Q : VK) (E : XK), Room k (A.deeper (envOfC qual (defScope st) s.heap.objs.size f cdv)) → sp vs H Q E →
      ∃ t, PSs (cxOf CX0 P w K mg base N qual (defScope st) f cdv A outer s H E).nox (defBody st) t ∧ t { nx := fun _ H' => Q .non H', rt := Q } (start N vs) H) : FnOk P w K mg base CX0 (k + 1) f fd ps sp := by
  obtain ⟨oc, od, kV, doc, pm, an, cdv, ct, osl, rfl, lk, hcd⟩ := F.ex
  refine fn_of lk hcd S len fun A outer s H vs Q E hr hsp => ?_
  obtain ⟨t, h, q⟩ := hbody cdv A outer s H vs Q E hr hsp
  exact ⟨t, h.nox, q⟩

theorem Fun.binds {x qual : Str} {st : Stmt} {f : Addr} {fd : FuncData} {ps : List Str} (F : Fun K x qual st f fd)
    (h : ∀ (kV doc pm : Value) (an : Option Addr) (cdv ct : Value) (us : List Value), us.length = ps.length → bindArgs (PySem.W.fnOf x qual (defArgs st) (defBody st) (defScope st) .none kV doc pm an cdv ct) ⟨us, []⟩ = pure (ps.zip us)) : Binds K fd ps [] := by
  obtain ⟨oc, od, kV, doc, pm, an, cdv, ct, osl, rfl, lk, hcd⟩ := F.ex
  exact .all (h kV doc pm an cdv ct)
theorem fun_mk {x qual : Str} {st : Stmt} {f : Addr} {oc : Value} {od an : Option Addr} {osl : Array (Option Value)} {kV doc pm cdv ct : Value} (l : K.lookup f = some ⟨oc, od, .func (PySem.W.fnOf x qual (defArgs st) (defBody st) (defScope st) .none kV doc pm an cdv ct), osl⟩)
    (c : PySem.W.codeIn K cdv qual = true) (k : PySem.W.keepIn K (.ref f) = true) : Fun K x qual st f (PySem.W.fnOf x qual (defArgs st) (defBody st) (defScope st) .none kV doc pm an cdv ct) := ⟨⟨oc, od, kV, doc, pm, an, cdv, ct, osl, rfl, l, c⟩, k⟩
end
section
variable {X : Cx}
theorem pv (i : Nat) {x : Str} {pos : Pos} (hN : X.N[i]? = some x := by rfl) (hv : Vis X.env.scope x := by first | exact Or.inl rfl | exact Or.inr (Or.inl rfl) | exact Or.inr (Or.inr rfl)) (hd : (x == ("__debug__" : Str)) = false := by decide)
    (hcd : (x == ("__classdict__" : Str)) = false := by decide) : PE X (.Name x pos) (tVar i) := pe_var hN hv hd hcd
end


theorem ite2 {c A B : Prop} [Decidable c] (h1 : c → A) (h2 : ¬ c → B) : if c then A else B := by
  by_cases h : c
  · rw [if_pos h]
    exact h1 h
  · rw [if_neg h]
    exact h2 h
def Same (H H' : Hp) : Prop := ∀ b o, H b = some o → H' b = some o
theorem Same.refl (H : Hp) : Same H H := fun _ _ h => h
theorem Same.trans {H H1 H2 : Hp} (a : Same H H1) (b : Same H1 H2) : Same H H2 := fun c o h => b c o (a c o h)
theorem Same.free {H H' : Hp} (e : Same H H') {l : Addr} (h : H' l = Option.none) : H l = Option.none := by
  cases q : H l with
  | none => rfl
  | some o =>
    rw [e l o q] at h
    cases h
theorem Same.seq {K : PySem.W.Frag} {H H' : Hp} {a : Addr} {xs : List V} (e : Same H H') (h : SqL K H a xs) : SqL K H' a xs := by
  rcases h with (h | ⟨o, h⟩) | h
  · exact .inl (.inl (e _ _ h))
  · exact .inl (.inr ⟨o, e _ _ h⟩)
  · exact .inr h

end L2

set_option Elab.async false
set_option linter.all false
set_option maxRecDepth 100000
set_option maxHeartbeats 4000000

namespace L2
open PySem PySem.Spec PyProof.Rows


def clOf (cells : List (Str × Addr)) : List (Str × NameKind) → List (Str × Addr) → List (Str × Addr)
  | [], acc => acc
  | (n, k) :: r, acc => clOf cells r (if (k == NameKind.free) = true then (n, (cells.lookup n).getD 0) :: acc else acc)

theorem closure_ok {sc : Scope} {env : Env} (h : ∀ n, (n, NameKind.free) ∈ sc.names → ∃ c, env.cells.lookup n = some c) : closureFor sc env = pure (clOf env.cells sc.names []) := by
  have all : ∀ (l : List (Str × NameKind)) (acc : List (Str × Addr)), (∀ n, (n, NameKind.free) ∈ l → ∃ c, env.cells.lookup n = some c) →
      (forIn l acc fun (x : Str × NameKind) (cs : List (Str × Addr)) => match x with
        | (name, kind) => if (kind == NameKind.free) = true then (do let c ← cellOf env name; pure (ForInStep.yield ((name, c) :: cs))) else pure (ForInStep.yield cs)) = (pure (clOf env.cells l acc) : Sem _) := by
    intro l
    induction l with
    | nil => intro acc _; rfl
    | cons x r ih =>
      intro acc hl
      obtain ⟨n, k⟩ := x
      rw [List.forIn_cons]
      by_cases hk : (k == NameKind.free) = true
      · have hk' : k = NameKind.free := by simpa using hk
        subst hk'
        obtain ⟨c, hc⟩ := hl n List.mem_cons_self
        have e1 : cellOf env n = pure c := by unfold cellOf; rw [hc]
        simp only [beq_self_eq_true, if_true, e1, pure_bind]
        rw [ih _ fun m hm => hl m (List.mem_cons_of_mem _ hm)]
        show _ = (pure (clOf env.cells r (if (NameKind.free == NameKind.free) = true then (n, (env.cells.lookup n).getD 0) :: acc else acc)) : Sem _)
        rw [if_pos (by simp), hc]
        rfl
      · have hk2 : (k == NameKind.free) = false := by simpa using hk
        simp only [hk2, Bool.false_eq_true, if_false, pure_bind]
        rw [ih _ fun m hm => hl m (List.mem_cons_of_mem _ hm)]
        show _ = (pure (clOf env.cells r (if (k == NameKind.free) = true then (n, (env.cells.lookup n).getD 0) :: acc else acc)) : Sem _)
        rw [if_neg hk]
  have := all sc.names [] h
  unfold closureFor
  dsimp only
  rw [this, pure_bind]

theorem lookup_clOf {cells : List (Str × Addr)} {x : Str} {c : Addr} : ∀ {l : List (Str × NameKind)} {acc : List (Str × Addr)}, (∀ n, (n, NameKind.free) ∈ l → ∃ c, cells.lookup n = some c) →
    (acc.lookup x = some c → cells.lookup x = some c) → (clOf cells l acc).lookup x = some c → cells.lookup x = some c
  | [], _, _, ha, h => ha h
  | (n, k) :: r, acc, hl, ha, h => by
    refine lookup_clOf (l := r) (fun m hm => hl m (List.mem_cons_of_mem _ hm)) ?_ h
    by_cases hk : (k == NameKind.free) = true
    · rw [if_pos hk]
      have hk' : k = NameKind.free := by simpa using hk
      subst hk'
      obtain ⟨d, hd⟩ := hl n List.mem_cons_self
      intro e
      rw [List.lookup_cons] at e
      cases hx : x == n with
      | true =>
        rw [hx] at e
        have hxn : x = n := by simpa using hx
        subst hxn
        rw [hd] at e ⊢
        exact e
      | false => rw [hx] at e; exact ha e
    · rw [if_neg hk]; exact ha

theorem clOf_has {cells : List (Str × Addr)} {x : Str} : ∀ {l : List (Str × NameKind)} {acc : List (Str × Addr)}, ((x, NameKind.free) ∈ l ∨ ∃ c, acc.lookup x = some c) → ∃ c, (clOf cells l acc).lookup x = some c
  | [], _, h => by
    rcases h with h | h
    · exact nomatch h
    · exact h
  | (n, k) :: r, acc, h => by
    refine clOf_has (l := r) ?_
    by_cases hk : (k == NameKind.free) = true
    · rw [if_pos hk]
      by_cases hx : (x == n) = true
      · exact .inr ⟨(cells.lookup n).getD 0, by rw [List.lookup_cons, hx]⟩
      · have hx2 : (x == n) = false := by simpa using hx
        rcases h with h | ⟨c, h⟩
        · rcases List.mem_cons.mp h with e | e
          · have e1 : x = n := congrArg Prod.fst e
            exact absurd (by simp [e1]) hx
          · exact .inl e
        · exact .inr ⟨c, by rw [List.lookup_cons, hx2]; exact h⟩
    · rw [if_neg hk]
      rcases h with h | h
      · rcases List.mem_cons.mp h with e | e
        · have e2 : NameKind.free = k := congrArg Prod.snd e
          exact absurd (by simp [← e2]) hk
        · exact .inl e
      · exact .inr h


def compCx (X : Cx) (sc : Scope) (N' : List Str) (C : Addr) (s₀ : Shared) (H₀ : Hp) (fp : List Addr) : Cx where
  prog := X.prog
  w := X.w
  K := X.K
  mg := X.mg
  base := X.base
  A := X.A
  N := N'
  s₀ := s₀
  H₀ := H₀
  env := compEnvC sc (clOf X.env.cells sc.names []) C X.env
  outer := X.stack
  stack := X.stack
  ex := fp
  fn := fun _ => false
  calm := X.calm
  pn := []
  xe := fun _ _ => False


def capS (cap : List (Option Nat)) (σ : St) : St := cap.map fun o => o.bind fun j => (σ[j]?).join

structure CapOk (X : Cx) (sc : Scope) (N' : List Str) (cap : List (Option Nat)) : Prop where
  kind : sc.kind = .function
  len : cap.length = N'.length
  nocell : ∀ x ∈ sc.names, x.2 ≠ NameKind.cell
  locals : ∀ x ∈ sc.names, x.2 = NameKind.local → sc.names.lookup x.1 = some NameKind.local
  free : ∀ n, (n, NameKind.free) ∈ sc.names → X.env.kindOf n = some .cell ∨ X.env.kindOf n = some .free
  slots : ∀ (i j : Nat) (x : Str), N'[i]? = some x → cap[i]? = some (some j) → X.N[j]? = some x ∧ ((relabel sc X.env).names.lookup x = some .cell ∨ (relabel sc X.env).names.lookup x = some .free) ∧ Vis X.env.scope x

section
variable {X : Cx} {sc : Scope} {N' : List Str} {cap : List (Option Nat)} {pins : List (Addr × Obj)} {σ : St} {H : Hp} {s : Shared} {C : Addr} {fp : List Addr}

theorem CapOk.cells (c : CapOk X sc N' cap) (ok : X.Ok) : ∀ n, (n, NameKind.free) ∈ sc.names → ∃ c, X.env.cells.lookup n = some c := fun n hn => ok.has n (c.free n hn)

theorem relabel_mem {env : Env} {x : Str} {k : NameKind} (hnc : ∀ x ∈ sc.names, x.2 ≠ NameKind.cell) (h : (relabel sc env).names.lookup x = some k) (hk : k = .cell ∨ k = .free) : (x, NameKind.free) ∈ sc.names := by
  have all : ∀ (l : List (Str × NameKind)), (∀ x ∈ l, x.2 ≠ NameKind.cell) → (l.map fun (n, k) => if (k == NameKind.free && env.scope.kind == .function && env.kindOf n == some .cell) then (n, NameKind.cell) else (n, k)).lookup x = some k → (x, NameKind.free) ∈ l := by
    intro l
    induction l with
    | nil => intro _ h; exact nomatch h
    | cons p r ih =>
      intro hn h
      obtain ⟨n, q⟩ := p
      rw [List.map_cons, List.lookup_cons] at h
      by_cases hc : (q == NameKind.free && env.scope.kind == .function && env.kindOf n == some .cell) = true
      · have hq : q = NameKind.free := by
          have := hc
          simp only [Bool.and_eq_true] at this
          simpa using this.1.1
        simp only [hc, if_true] at h
        cases hx : x == n with
        | true =>
          have e : x = n := by simpa using hx
          rw [e, hq]
          exact List.mem_cons_self
        | false =>
          rw [hx] at h
          exact List.mem_cons_of_mem _ (ih (fun y hy => hn y (List.mem_cons_of_mem _ hy)) h)
      · simp only [hc] at h
        cases hx : x == n with
        | true =>
          have e : x = n := by simpa using hx
          simp only [Bool.false_eq_true, if_false, hx] at h
          have e2 : q = k := by simpa using h
          rcases hk with z | z
          · exact absurd (e2.trans z) (hn (n, q) List.mem_cons_self)
          · rw [e, ← z, ← e2]
            exact List.mem_cons_self
        | false =>
          simp only [Bool.false_eq_true, if_false, hx] at h
          exact List.mem_cons_of_mem _ (ih (fun y hy => hn y (List.mem_cons_of_mem _ hy)) h)
  exact all sc.names hnc h

theorem comp_ok (c : CapOk X sc N' cap) (I : Inv X pins σ H s) (hC : s.heap.objs.size ≤ C) (hf : ∀ b ∈ fp, FpOk X pins H b) (hb : ∀ b ∈ fp, b < s.heap.objs.size) : (compCx X sc N' C s H fp).Ok where
  mod := I.ok.mod
  kind := c.kind
  glob := I.ok.glob
  blt := I.ok.blt
  above := hC
  inj := fun x y a hx hy => I.ok.inj x y a (lookup_clOf (c.cells I.ok) (fun z => by simp at z) hx) (lookup_clOf (c.cells I.ok) (fun z => by simp at z) hy)
  has := fun x hx => by
    refine clOf_has (.inl ?_)
    rcases hx with hx | hx
    · exact relabel_mem c.nocell hx (.inl rfl)
    · exact relabel_mem c.nocell hx (.inr rfl)
  cab := fun _ _ h => nomatch h
  hd := I.ok.hd
  frames := I.ok.frames
  stk := .inl rfl
  exf := fun b hb' => ⟨Nat.ne_of_lt (Nat.lt_of_lt_of_le (hb b hb') hC), fun x a e => (hf b hb').2.2.2.2.1 x a (lookup_clOf (c.cells I.ok) (fun z => by simp at z) e)⟩
  bs := I.bs
  bsz := Nat.le_trans I.ok.bsz I.sz
  noex := fun b o e hb' => by
    rcases (hf b hb').2.2.2.1 with z | z
    · exact I.ok.noex b o e z
    · exact absurd (Nat.lt_of_lt_of_le (Heap.lt_size e) (Nat.le_trans I.ok.bsz z)) (Nat.lt_irrefl _)
  exfs := fun b hb' z => by
    obtain ⟨_, f1, f2, _⟩ := hf b hb'
    rcases List.mem_cons.mp (I.stkSub b z) with e | e
    · exact f1 e
    · exact f2 e
  funs := I.stack
  frf := I.stkFree


theorem comp_inv (c : CapOk X sc N' cap) (I : Inv X pins σ H s) {D : Addr} {h1 : Heap} {t : Nat} (hC : C = s.heap.objs.size + 1) (hD : D = s.heap.objs.size) (hf : ∀ b ∈ fp, FpOk X pins H b) (hb : ∀ b ∈ fp, b < s.heap.objs.size)
    (hn : h1.Ns C fun _ => none) (hl : h1.get? D = some { cls := .type "list", data := .seq #[] 0 }) (k : ∀ b o, s.heap.get? b = some o → h1.get? b = some o) :
    Inv (compCx X sc N' C s H fp) [] (capS cap σ) (upd H D (.lst [])) { s with heap := h1, toks := t } := by
  have hCs : s.heap.objs.size ≤ C := by rw [hC]; exact Nat.le_succ _
  have hCD : C ≠ D := by rw [hC, hD]; exact Nat.succ_ne_self _
  have ok := comp_ok (C := C) (fp := fp) c I hCs hf hb
  have hDn : H D = none := by rw [hD]; exact I.fresh
  have ltc : ∀ x a, (clOf X.env.cells sc.names []).lookup x = some a → X.env.cells.lookup x = some a := fun x a e => lookup_clOf (c.cells I.ok) (fun z => by simp at z) e
  have cel : ∀ a v, s.heap.IsCell a v → h1.IsCell a v := fun a v ⟨o, ho, hd⟩ => ⟨o, k a o ho, hd⟩
  have ltD : ∀ a v, s.heap.IsCell a v → a ≠ D := fun a v ⟨o, ho, hd⟩ => by rw [hD]; exact Nat.ne_of_lt (Heap.lt_size ho)
  refine ⟨ok, rfl, I.bare, Un.laid k (by rw [hD]; exact Nat.le_refl _) hDn, ⟨_, hn, fun i x v e1 e2 e3 => ?_⟩, fun x a e => ?_, ?_, fun x a e => ?_, fun p hp => absurd hp (by simp [compCx]), ?_, ?_⟩
  · have e2' : cap[i]?.map (fun o => o.bind fun j => (σ[j]?).join) = some (some v) := by
      have := e2
      unfold capS at this
      rw [List.getElem?_map] at this
      exact this
    cases hc : cap[i]? with
    | none => rw [hc] at e2'; cases e2'
    | some o =>
      rw [hc] at e2'
      cases o with
      | none => cases e2'
      | some j =>
        have e4 : (σ[j]?).join = some v := by simpa using e2'
        obtain ⟨q1, q2', q3⟩ := c.slots i j x e1 hc
        have q2 : (x, NameKind.free) ∈ sc.names := q2'.elim (fun z => relabel_mem c.nocell z (.inl rfl)) fun z => relabel_mem c.nocell z (.inr rfl)
        obtain ⟨m, hm, hl'⟩ := I.loc
        have e5 : σ[j]? = some (some v) := by
          cases z : σ[j]? with
          | none => rw [z] at e4; cases e4
          | some y => rw [z] at e4; cases y with
            | none => cases e4
            | some y' => cases e4; rfl
        obtain ⟨u, r, l⟩ := hl' j x v q1 e5 q3
        refine ⟨u, r, ?_⟩
        obtain ⟨a, ha⟩ := clOf_has (cells := X.env.cells) (l := sc.names) (acc := []) (x := x) (.inl q2)
        have kd : X.env.kindOf x = some .cell ∨ X.env.kindOf x = some .free := c.free x q2
        rcases l with ⟨hk, _⟩ | ⟨hk, a', ha', hcell⟩
        · rcases kd with z | z <;> rw [z] at hk <;> cases hk
        · have e6 : a' = a := by
            have := ltc x a ha
            rw [ha'] at this
            exact Option.some.inj this
          refine .inr ⟨q2', a, ha, ?_⟩
          rw [← e6]
          exact cel _ _ hcell
  · obtain ⟨v, z⟩ := I.cell x a (ltc x a e)
    exact ⟨v, cel a v z⟩
  · show upd H D (.lst []) C = none
    rw [upd_ne hCD]
    exact I.hok.fresh hCs
  · show upd H D (.lst []) a = none
    obtain ⟨v, z⟩ := I.cell x a (ltc x a e)
    rw [upd_ne (ltD a v z)]
    exact I.freeC x a (ltc x a e)
  · exact I.hok.laid k (by rw [hD]; exact Nat.le_refl _) ⟨Nat.zero_le _, [], 0, .nil, hl⟩
  · show (capS cap σ).length = N'.length
    unfold capS
    rw [List.length_map, c.len]
end
end L2

set_option Elab.async false
set_option linter.all false
set_option maxRecDepth 100000
set_option maxHeartbeats 4000000
namespace L2
open PySem PySem.Spec PyProof.Rows


def capB (osc : Scope) (N : List Str) (sc : Scope) (N' : List Str) (cap : List (Option Nat)) : Bool :=
  decide (sc.kind = .function) && decide (cap.length = N'.length) && sc.names.all (fun x => decide (x.2 ≠ NameKind.cell)) && sc.names.all (fun x => decide (x.2 = NameKind.local → sc.names.lookup x.1 = some NameKind.local)) &&
  sc.names.all (fun x => decide (x.2 = NameKind.free → (osc.names.lookup x.1 = some .cell ∨ osc.names.lookup x.1 = some .free))) &&
  (N'.zip cap).all (fun p => match p.2 with
    | none => true
    | some j => decide (N[j]? = some p.1) && decide (((sc.names.map fun (n, k) => if (k == .free && osc.kind == .function && osc.names.lookup n == some .cell) then (n, NameKind.cell) else (n, k)).lookup p.1 = some .cell) ∨
        ((sc.names.map fun (n, k) => if (k == .free && osc.kind == .function && osc.names.lookup n == some .cell) then (n, NameKind.cell) else (n, k)).lookup p.1 = some .free)) &&
      decide (osc.names.lookup p.1 = some .local ∨ osc.names.lookup p.1 = some .cell ∨ osc.names.lookup p.1 = some .free))
theorem capB_ok {X : Cx} {sc : Scope} {N' : List Str} {cap : List (Option Nat)} (h : capB X.env.scope X.N sc N' cap = true) : CapOk X sc N' cap := by
  unfold capB at h
  rw [Bool.and_eq_true, Bool.and_eq_true, Bool.and_eq_true, Bool.and_eq_true, Bool.and_eq_true, List.all_eq_true, List.all_eq_true, List.all_eq_true, List.all_eq_true] at h
  obtain ⟨⟨⟨⟨⟨h1, h2⟩, h3⟩, h4⟩, h5⟩, h6⟩ := h
  refine ⟨of_decide_eq_true h1, of_decide_eq_true h2, fun x hx => of_decide_eq_true (h3 x hx), fun x hx => of_decide_eq_true (h4 x hx), fun n hn => of_decide_eq_true (h5 _ hn) rfl, fun i j x e1 e2 => ?_⟩
  have hm : (x, some j) ∈ N'.zip cap := by
    have e : (N'.zip cap)[i]? = some (x, some j) := by
      rw [List.getElem?_zip_eq_some]
      exact ⟨e1, e2⟩
    exact List.mem_of_getElem? e
  have h7 := h6 _ hm
  dsimp only at h7
  rw [Bool.and_eq_true, Bool.and_eq_true] at h7
  obtain ⟨⟨h8, h9⟩, h10⟩ := h7
  exact ⟨of_decide_eq_true h8, of_decide_eq_true (p := (relabel sc X.env).names.lookup x = some .cell ∨ (relabel sc X.env).names.lookup x = some .free) h9, of_decide_eq_true (p := X.env.scope.names.lookup x = some .local ∨ X.env.scope.names.lookup x = some .cell ∨ X.env.scope.names.lookup x = some .free) h10⟩


def PTs (X : Cx) (ifs : List Expr) (t : TT) : Prop :=
  ∀ (pins : List (Addr × Obj)) (s : Shared) (σ : St) (H : Hp) (Q : Bool → Hp → Prop), Inv X pins σ H s → t σ H Q →
    wpAny (model X.prog X.w) X.A (forIn ifs true fun c r => if r = true then do let ok ← isTrue c X.env (eval c X.env); pure (ForInStep.yield ok) else pure (ForInStep.yield r)) (TP X pins σ Q) X.xe s
def tYes : TT := fun _ H Q => Q true H
theorem pts_nil {X : Cx} : PTs X [] tYes := fun _ _ _ H _ I h => wpAny_tests_nil ⟨H, I, h⟩
def RunC (J : It) (g : TG) (tc : TT) (te : TE) (D : Addr) (Q : Hp → Prop) (τ : St) (H : Hp) : Prop :=
  ∃ W : Nat → Nat → List V → St → Hp → Prop, (∃ m, W 0 m [] τ H) ∧ ∀ i m ys τ H, W i m ys τ H →
    (J.stop i H ∧ Q H) ∨
    (J.go i H ∧ ∃ N : List V → St → Hp → Prop, (∀ ys' τ' H', N ys' τ' H' → ∃ m', m' < m ∧ W (i + 1) m' ys' τ' H') ∧
      ∀ x H', J.yld i H x H' → g x τ H' fun τ2 H2 => tc τ2 H2 fun b H3 => if b = true then te τ2 H3 fun y H4 => H4 D = some (.lst ys) ∧ ys.length < sizeLine ∧ N (ys ++ [y]) τ2 (upd H4 D (.lst (ys ++ [y]))) else N ys τ2 H3)

section
variable {X : Cx} {sc : Scope} {N' : List Str} {cap : List (Option Nat)} {tg elt iter : Expr} {ifs : List Expr} {pos : Pos} {g : TG} {tc : TT} {te : TE}

theorem comp_loop {Y : Cx} {J : It} {fp : List Addr} {it D : Addr} {tn : Nat → Heap → Prop} {R : Result → Shared → Prop} {Q : Hp → Prop} {τ : St} {H : Hp} {s : Shared}
    (hx : Y.xe = fun _ _ => False) (hc : Y.calm = true) (hg : PG Y tg g) (ht : PTs Y ifs tc) (he : PE Y elt te) (T : Turn Y.prog Y.w Y.K tg J fp it tn) (st : tn 0 s.heap) (hf : ∀ b ∈ fp, FpOk Y [] H b) (I : Inv Y [] τ H s)
    (h : RunC J g tc te D Q τ H) (hR : ∀ τ' H' s', Inv Y [] τ' H' s' → Q H' → R (.ok .next) s') :
    codeAny (model Y.prog Y.w) Y.A (.compLoop (.ListComp elt [⟨tg, iter, ifs, 0⟩] sc pos) 0 (.ref it) (.ref D) Y.env) R s := by
  obtain ⟨W, ⟨m0, w0⟩, turn⟩ := h
  have stat : ∀ {H' : Hp}, (∀ b ∈ fp, H' b = none) → ∀ b ∈ fp, FpOk Y [] H' b := fun hn b hb => ⟨hn b hb, (hf b hb).2⟩
  have no : ∀ {P : Prop} {e : Value} {s' : Shared}, Y.xe e s' → P := fun z => by rw [hx] at z; exact z.elim
  refine codeAny_loop rfl (fun n s' => ∃ i ys τ' H', Inv Y [] τ' H' s' ∧ tn i s'.heap ∧ (∀ b ∈ fp, H' b = none) ∧ W i n ys τ' H') ?_ m0 ⟨0, [], τ, H, I, st, fun b hb => (hf b hb).1, w0⟩
  rintro n s3 ⟨i, ys, τ3, H3, I3, st3, fr3, w3⟩
  show wpAny _ Y.A ((compTurn (.ListComp elt [⟨tg, iter, ifs, 0⟩] sc pos) 0 (.ref it) (.ref D) Y.env).onRaise (fun x => do noteFrame x Y.env; theTreesLotGoes x)) _ _ s3
  refine wpAny_noted ?_
  rw [compTurn_list]
  refine wpAny_bind (wpAny_standAt (wpAny_bind ?_))
  rcases turn i n ys τ3 H3 w3 with ⟨stop, qn⟩ | ⟨go, N, hN, step⟩
  · refine wpAny_mono (T.done Y rfl rfl rfl hc i [] s3 τ3 H3 (fun _ _ => False) I3 (stat fr3) st3 stop) (fun r s4 ⟨hr, I4⟩ => ?_) fun _ _ z => z.elim
    subst hr
    exact wpAny_pure (hR _ _ _ I4 qn)
  · refine wpAny_mono (T.item Y rfl rfl rfl hc i [] s3 τ3 H3 (fun _ _ => False) I3 (stat fr3) st3 go) (fun r s4 ⟨u, hr, h4⟩ => ?_) fun _ _ z => z.elim
    subst hr
    refine wpAny_bind (wpAny_mono h4 (fun _ s5 ⟨x, H5, I5, r5, y5, st5, fr5⟩ => ?_) fun _ _ z => z.elim)
    have I5' := I5.pinned (stat fr5) (T.obj _ _ st5)
    have again : ∀ {τ7 : St} {H7 : Hp} {ys7 : List V} {s7 : Shared}, Inv Y ([] ++ pinsAt fp s5.heap) τ7 H7 s7 → N ys7 τ7 H7 → ∃ m, m < n ∧ ∃ i ys τ' H', Inv Y [] τ' H' s7 ∧ tn i s7.heap ∧ (∀ b ∈ fp, H' b = none) ∧ W i m ys τ' H' := fun {τ7 H7 ys7 s7} I7 n7 => by
      obtain ⟨m', hm, w7⟩ := hN ys7 τ7 H7 n7
      refine ⟨m', hm, i + 1, ys7, τ7, H7, I7.unpinned, T.keep _ _ _ st5 fun b hb o e => (I7.pin (b, o) (List.mem_append_right _ (List.mem_append_right _ (mem_pinsAt hb e)))).1, fun b hb => ?_, w7⟩
      obtain ⟨o, e, d⟩ := T.obj _ _ st5 b hb
      exact (I7.pin (b, o) (List.mem_append_right _ (List.mem_append_right _ (mem_pinsAt hb e)))).2.1
    refine wpAny_bind (wpAny_mono (hg _ s5 τ3 H5 x u _ I5' r5 (step x H5 y5)) (fun _ s6 ⟨τ6, H6, I6, q6⟩ => ?_) fun _ _ z => no z)
    refine wpAny_bind (wpAny_mono (ht _ s6 τ6 H6 _ I6 q6) (fun ok s7 ⟨H7, I7, q7⟩ => ?_) fun _ _ z => no z)
    cases ok with
    | false =>
      have q8 : N ys τ6 H7 := by simpa using q7
      exact wpAny_pure ⟨rfl, again I7 q8⟩
    | true =>
      have q8 : te τ6 H7 fun y H4 => H4 D = some (.lst ys) ∧ ys.length < sizeLine ∧ N (ys ++ [y]) τ6 (upd H4 D (.lst (ys ++ [y]))) := by simpa using q7
      refine wpAny_bind (wpAny_bind (wpAny_mono (he _ s7 τ6 H7 _ I7 q8) (fun y s8 ⟨v8, H8, I8, r8, hD, hl, n8⟩ => ?_) fun _ _ z => no z))
      refine wpAny_bind (wpAny_mono (mt_append _ s8 τ6 H8 (.ref D) [v8] (.ref D) [y] (fun _ H9 => N (ys ++ [v8]) τ6 H9) I8 rfl (.cons r8 .nil) ⟨D, ys, v8, rfl, rfl, hD, hl, n8⟩) (fun _ s9 ⟨_, H9, I9, _, n9⟩ => ?_) fun _ _ z => no z)
      exact wpAny_pure (wpAny_pure ⟨rfl, again I9 n9⟩)


theorem comp_block {pins : List (Addr × Obj)} {σ : St} {H : Hp} {s : Shared} {J : It} {fp : List Addr} {it : Addr} {tn : Nat → Heap → Prop} {RR : Value → Addr → Result → Shared → Prop} {Q : Addr → Hp → Prop} {E : Value → Shared → Prop}
    (c : CapOk X sc N' cap) (hc : X.calm = true) (hg : ∀ C s₀ H₀ fp, PG (compCx X sc N' C s₀ H₀ fp) tg g) (ht : ∀ C s₀ H₀ fp, PTs (compCx X sc N' C s₀ H₀ fp) ifs tc) (he : ∀ C s₀ H₀ fp, PE (compCx X sc N' C s₀ H₀ fp) elt te)
    (I : Inv X pins σ H s) (T : Turn X.prog X.w X.K tg J fp it tn) (st : tn 0 s.heap) (hf : ∀ b ∈ fp, FpOk X pins H b)
    (h : ∀ D, H D = none → RunC J g tc te D (Q D) (capS cap σ) (upd H D (.lst [])))
    (hR : ∀ D C s' H' m', H D = none → s.heap.objs.size ≤ C → s'.os = s.os → AllBare s'.gens → Un (frs X.stack) fp H H' s.heap s'.heap → HOk X.prog X.w H' s'.heap → s'.heap.Ns C m' → H' C = none → C ∉ fp → Q D H' → RR (.ref D) C (.ok .next) s') :
    wpAny (model X.prog X.w) X.A (newList []) (fun acc s₃ => wpAny (model X.prog X.w) X.A (newFunctionEnv sc X.env.globals (clOf X.env.cells sc.names []) [] X.env.qual none .none (some X.env)) (fun cenv s₄ =>
      codeAny (model X.prog X.w) X.A (.compStart (.ListComp elt [⟨tg, iter, ifs, 0⟩] sc pos) 0 (.ref it) acc { cenv with scope := relabel sc X.env }) (RR acc cenv.locals) s₄) E s₃) E s := by
  have hb : ∀ b ∈ fp, b < s.heap.objs.size := fun b hb => by
    obtain ⟨o, e, _⟩ := T.obj _ _ st b hb
    exact Heap.lt_size e
  refine wpAny_newObj_type (wpAny_newFunctionEnv c.nocell (by intro y hy; simp at hy) (fun h₁ hns₁ hsb₁ => ?_) c.kind)
  dsimp only at hns₁ hsb₁ ⊢
  generalize hH2 : s.heap.push { cls := .type "list", dict := none, data := .seq ([] : List Value).toArray } = H2 at hns₁ hsb₁ ⊢
  have hC : H2.objs.size = s.heap.objs.size + 1 := by rw [← hH2, Heap.size_push]
  have hCl : s.heap.objs.size ≤ H2.objs.size := by rw [hC]; exact Nat.le_succ _
  have hCn : s.heap.objs.size ≠ H2.objs.size := by rw [hC]; exact (Nat.succ_ne_self _).symm
  have old : ∀ b o, s.heap.get? b = some o → h₁.get? b = some o := fun b o e => by
    have l1 := Heap.lt_size e
    exact hsb₁.extBut b o (Nat.ne_of_lt (Nat.lt_of_lt_of_le l1 hCl)) (Heap.get?_push_of_some _ (hH2 ▸ Heap.get?_push_of_some _ e))
  have hl : h₁.get? s.heap.objs.size = some { cls := .type "list", data := .seq #[] 0 } := hsb₁.extBut _ _ hCn (Heap.get?_push_of_some _ (hH2 ▸ Heap.get?_push_size _ rfl))
  have hns₂ : h₁.Ns H2.objs.size fun _ => none := by simpa using hns₁
  have I4 : Inv (compCx X sc N' H2.objs.size s H fp) [] (capS cap σ) (upd H s.heap.objs.size (.lst [])) { s with heap := h₁, toks := s.toks + ([] : List (Str × Value)).length } := comp_inv c I hC rfl hf hb hns₂ hl old
  have hfr : H s.heap.objs.size = none := I.fresh
  have f4 : ∀ b ∈ fp, FpOk (compCx X sc N' H2.objs.size s H fp) [] (upd H s.heap.objs.size (.lst [])) b := fun b hb' => by
    obtain ⟨f0, f1, f2, f3, f4, f5⟩ := hf b hb'
    have lb := hb b hb'
    refine ⟨by rw [upd_ne (Nat.ne_of_lt lb)]; exact f0, (Nat.ne_of_lt (Nat.lt_of_lt_of_le lb hCl) : b ≠ H2.objs.size), fun z => ?_, .inl hb', fun x a e => f4 x a (lookup_clOf (c.cells I.ok) (fun z => by simp at z) e), fun p hp => absurd hp (by simp [compCx])⟩
    rcases List.mem_cons.mp (I.stkSub b z) with e | e
    · exact f1 e
    · exact f2 e
  have st4 : tn 0 h₁ := T.keep _ _ _ st fun b _ o e => old b o e
  have loop : ∀ s₅ : Shared, s₅ = { s with heap := h₁, toks := s.toks + ([] : List (Str × Value)).length } →
      codeAny (model X.prog X.w) X.A (.compLoop (.ListComp elt [⟨tg, iter, ifs, 0⟩] sc pos) 0 (.ref it) (.ref s.heap.objs.size) (compCx X sc N' H2.objs.size s H fp).env) (RR (.ref s.heap.objs.size) H2.objs.size) s₅ := by
    rintro s₅ rfl
    refine comp_loop (Y := compCx X sc N' H2.objs.size s H fp) (J := J) (fp := fp) (tn := tn) (Q := Q s.heap.objs.size) rfl hc (hg _ _ _ _) (ht _ _ _ _) (he _ _ _ _) T st4 f4 I4 (h _ hfr) fun τ' H' s' I' q' => ?_
    obtain ⟨m', hn', _⟩ := I'.loc
    exact hR _ _ s' H' m' hfr hCl I'.os I'.bare I'.base I'.hok hn' I'.free (fun z => absurd (Nat.lt_of_lt_of_le (hb _ z) hCl) (Nat.lt_irrefl _)) q'
  exact codeAny_compStart_list (loop _ rfl) (T.self _ 0 _ _ _ st4 (loop _ rfl))

def tComp (wi : TI) (cap : List (Option Nat)) (g : TG) (tc : TT) (te : TE) : TE := fun σ H Q => wi σ H fun J H1 => ∀ D, H1 D = none → RunC J g tc te D (fun H' => Q (.ref D) H') (capS cap σ) (upd H1 D (.lst []))

theorem Inv.fpCh {pins : List (Addr × Obj)} {H : Hp} {fp : List Addr} (hf : ∀ b ∈ fp, FpOk X pins H b) : ∀ b ∈ fp, (b ∈ X.ex ∨ X.s₀.heap.objs.size ≤ b) ∧ b ≠ X.env.locals ∧ (∀ x c, X.env.cells.lookup x = some c → c ≠ b) ∧ ∀ p ∈ X.pn ++ pins, p.1 ≠ b :=
  fun b hb => let ⟨_, f1, _, f3, f4, f5⟩ := hf b hb; ⟨f3, f1, f4, f5⟩

theorem pe_comp {wi : TI} (hc : X.calm = true) (hcap : capB X.env.scope X.N sc N' cap = true) (hi : PI X tg iter wi) (hg : ∀ C s₀ H₀ fp, PG (compCx X sc N' C s₀ H₀ fp) tg g) (ht : ∀ C s₀ H₀ fp, PTs (compCx X sc N' C s₀ H₀ fp) ifs tc)
    (he : ∀ C s₀ H₀ fp, PE (compCx X sc N' C s₀ H₀ fp) elt te) (hs : ∀ x, foldedSetIterable iter X.env x = pure x := by intro _; rfl) : PE X (.ListComp elt [⟨tg, iter, ifs, 0⟩] sc pos) (tComp wi cap g tc te) := by
  intro pins s σ H Q I h
  have c : CapOk X sc N' cap := capB_ok hcap
  rw [eval_ListComp]
  refine wpAny_comprehension_free (use := none) rfl hs (closure_ok (c.cells I.ok)) c.kind c.locals (thn (hi pins s σ H _ I h) fun v s1 h1 => thn h1 fun itv s2 h2 => ?_)
  obtain ⟨it, fp, tn, J, H2, e, I2, T, st2, f2, hW⟩ := h2
  subst e
  refine comp_block (RR := fun acc C => compPost (model X.prog X.w) X.A X.xe none (EP X pins σ Q) acc C) (Q := fun D H' => Q (.ref D) H') c hc hg ht he I2 T st2 f2 hW ?_
  intro D C s' H' m' hD hC hos hbare hun hok hn hHC hCf q
  refine ⟨m', hn, fun h' hsb => ?_⟩
  have I3 : Inv X pins σ H' s' := I2.call' hos hun hok hbare (Inv.fpCh f2)
  have f3 : FpOk X pins H' C := I2.fpOk hC hHC
  obtain ⟨_, k1, _, k3, k4, k5⟩ := f3
  have I4 : Inv X pins σ H' { s' with heap := h' } := I3.turned (t' := s'.toks) (fun b o hb e => (hsb.2 b hb).trans e) hHC k1 k3 k4 k5
  exact ⟨.ref D, H', I4, rfl, q⟩


theorem ps_setC {wi : TI} {i : Nat} {x : Str} {px spos : Pos} (hN : X.N.Nodup) (hi' : X.N[i]? = some x) (hx : Loc X.env.scope x) (hc : X.calm = true) (hcap : capB X.env.scope X.N sc N' cap = true) (hi : PI X tg iter wi)
    (hg : ∀ C s₀ H₀ fp, PG (compCx X sc N' C s₀ H₀ fp) tg g) (ht : ∀ C s₀ H₀ fp, PTs (compCx X sc N' C s₀ H₀ fp) ifs tc) (he : ∀ C s₀ H₀ fp, PE (compCx X sc N' C s₀ H₀ fp) elt te)
    (hsw : swapsWith (.ListComp elt [⟨tg, iter, ifs, 0⟩] sc pos) (some (.Name x px)) spos.line X.env = pure true := by rfl)
    (hs : ∀ x, foldedSetIterable iter X.env x = pure x := by intro _; rfl) (hf : X.fn x = true ∨ X.env.scope.names.lookup x = some .local := by first | exact .inl rfl | exact .inr rfl | assumption) :
    PS X (.Assign [.Name x px] (.ListComp elt [⟨tg, iter, ifs, 0⟩] sc pos) spos) (tAsg (tComp wi cap g tc te) (gName i)) := by
  intro pins s σ H D I h
  have c : CapOk X sc N' cap := capB_ok hcap
  rw [exec_Assign_Name_used _ _ _ _ hsw]
  refine wpAny_bind (wpAny_standAt (wpAny_bind ?_))
  show wpAny _ X.A (do let _ ← comprehension (.ListComp elt [⟨tg, iter, ifs, 0⟩] sc pos) sc X.env _ (newList []) false (eval iter X.env) (some (assign (.Name x px) X.env))) _ _ s
  refine wpAny_bind (thn (wpAny_comprehension_free (use := some (assign (.Name x px) X.env)) (Q := fun _ s' => SP X pins D .next s') rfl hs (closure_ok (c.cells I.ok)) c.kind c.locals
    (thn (hi pins s σ H _ I h) fun v s1 h1 => thn h1 fun itv s2 h2 => ?_)) fun _ s' hq => wpAny_pure (wpAny_pure hq))
  obtain ⟨it, fp, tn, J, H2, e, I2, T, st2, f2, hW⟩ := h2
  subst e
  refine comp_block (RR := fun acc C => compPost (model X.prog X.w) X.A X.xe (some (assign (.Name x px) X.env)) (fun _ s' => SP X pins D .next s') acc C) (Q := fun A H' => gName i (.ref A) σ H' D.nx) c hc hg ht he I2 T st2 f2 hW ?_
  intro A C s' H' m' hD hC hos hbare hun hok hn hHC hCf q
  have I3 : Inv X pins σ H' s' := I2.call' hos hun hok hbare (Inv.fpCh f2)
  have f3 : FpOk X pins H' C := I2.fpOk hC hHC
  obtain ⟨_, k1, _, k3, k4, k5⟩ := f3
  show wpAny _ X.A (assign (.Name x px) X.env (.ref A)) _ _ s'
  refine wpAny_assign_Name (store_ok2 I3 hN hi' hx (v := .ref A) rfl (fun s'' I'' ⟨a, hsb, ha⟩ => ?_) hf)
  have hCa : C ≠ a := by
    rcases ha with z | z
    · rw [z]; exact k1
    · exact fun z' => k4 x a z z'.symm
  refine ⟨m', hn.sameBut hsb hCa, fun h' hsb' => ?_⟩
  have I4 : Inv X pins (σ.set i (some (.ref A))) H' { s'' with heap := h' } := I''.turned (t' := s''.toks) (fun b o hb e => (hsb'.2 b hb).trans e) hHC k1 k3 k4 k5
  exact ⟨_, H', I4, q⟩
end


section
variable {g : TG} {tc : TT} {te : TE} {D : Addr} {Q : Hp → Prop} {τ : St} {H : Hp}
theorem comp_list {K : PySem.W.Frag} {a : Addr} {xs : List V} (Pv : Nat → List V → St → Hp → Prop) (h0 : Pv 0 [] τ H) (hl : ∀ i ys τ H, i ≤ xs.length → Pv i ys τ H → SqL K H a xs)
    (hs : ∀ i x ys τ H, xs[i]? = some x → Pv i ys τ H → g x τ H fun τ2 H2 => tc τ2 H2 fun b H3 => if b = true then te τ2 H3 fun y H4 => H4 D = some (.lst ys) ∧ ys.length < sizeLine ∧ Pv (i + 1) (ys ++ [y]) τ2 (upd H4 D (.lst (ys ++ [y]))) else Pv (i + 1) ys τ2 H3)
    (hd : ∀ ys τ H, Pv xs.length ys τ H → Q H) : RunC (Itl K a) g tc te D Q τ H := by
  refine ⟨fun i m ys τ H => m = xs.length - i ∧ i ≤ xs.length ∧ Pv i ys τ H, ⟨xs.length, by simp, Nat.zero_le _, h0⟩, ?_⟩
  rintro i m ys τ H ⟨rfl, hi, p⟩
  have q := hl i ys τ H hi p
  by_cases hlt : i < xs.length
  · refine .inr ⟨⟨xs, xs[i], q, by simp [hlt]⟩, Pv (i + 1), fun ys' τ' H' p' => ⟨xs.length - (i + 1), by omega, rfl, hlt, p'⟩, fun x H' y => ?_⟩
    obtain ⟨e, y⟩ := y
    subst e
    exact hs i x ys τ _ (y xs q) p
  · have e : i = xs.length := by omega
    subst e
    exact .inl ⟨⟨xs, q, Nat.le_refl _⟩, hd ys τ H p⟩
theorem comp_range {lo : Int} {n : Nat} (Pv : Nat → List V → St → Hp → Prop) (h0 : Pv 0 [] τ H)
    (hs : ∀ i ys τ H, i < n → Pv i ys τ H → g (.int (lo + i)) τ H fun τ2 H2 => tc τ2 H2 fun b H3 => if b = true then te τ2 H3 fun y H4 => H4 D = some (.lst ys) ∧ ys.length < sizeLine ∧ Pv (i + 1) (ys ++ [y]) τ2 (upd H4 D (.lst (ys ++ [y]))) else Pv (i + 1) ys τ2 H3)
    (hd : ∀ ys τ H, Pv n ys τ H → Q H) : RunC (Itr lo n) g tc te D Q τ H := by
  refine ⟨fun i m ys τ H => m = n - i ∧ i ≤ n ∧ Pv i ys τ H, ⟨n, by simp, Nat.zero_le _, h0⟩, ?_⟩
  rintro i m ys τ H ⟨rfl, hi, p⟩
  by_cases hlt : i < n
  · refine .inr ⟨hlt, Pv (i + 1), fun ys' τ' H' p' => ⟨n - (i + 1), by omega, rfl, hlt, p'⟩, fun x H' y => ?_⟩
    obtain ⟨e, y⟩ := y
    subst e y
    exact hs i ys τ _ hlt p
  · have e : i = n := by omega
    subst e
    exact .inl ⟨Nat.le_refl _, hd ys τ H p⟩
end
end L2

set_option Elab.async false
set_option linter.all false
set_option maxRecDepth 100000
set_option maxHeartbeats 4000000

namespace L2
open PySem PySem.Spec PyProof.Rows PySem.SeqAt

inductive D where
  | non | bl (b : Bool) | int (i : Int) | str (x : Str) | tup (ds : List D) | lst (ds : List D)

mutual
def Rep (K : PySem.W.Frag) (H : Hp) : V → D → Prop
  | v, .non => v = .non
  | v, .bl b => v = .bl b
  | v, .int i => v = .int i
  | v, .str x => v = .str x
  | v, .tup ds => ∃ a vs, v = .ref a ∧ SqT K H a vs ∧ Reps K H vs ds
  | v, .lst ds => ∃ a vs, v = .ref a ∧ SqL K H a vs ∧ Reps K H vs ds
def Reps (K : PySem.W.Frag) (H : Hp) : List V → List D → Prop
  | vs, [] => vs = []
  | vs, d :: ds => ∃ v r, vs = v :: r ∧ Rep K H v d ∧ Reps K H r ds
end
mutual
def imm : D → Bool
  | .lst _ => false
  | .tup ds => imms ds
  | _ => true
def imms : List D → Bool
  | [] => true
  | d :: ds => imm d && imms ds
end
mutual
def dep : D → Nat
  | .lst ds => deps ds + 1
  | .tup ds => deps ds + 1
  | _ => 0
def deps : List D → Nat
  | [] => 0
  | d :: ds => max (dep d) (deps ds)
end
mutual
def eqD : D → D → Bool
  | .non, .non => true
  | .bl a, .bl b => a == b
  | .bl a, .int b => (if a then 1 else 0) == b
  | .int a, .bl b => a == (if b then 1 else 0)
  | .int a, .int b => a == b
  | .str a, .str b => a == b
  | .tup a, .tup b => eqDs a b
  | .lst a, .lst b => eqDs a b
  | _, _ => false
def eqDs : List D → List D → Bool
  | [], [] => true
  | a :: r, b :: q => eqD a b && eqDs r q
  | _, _ => false
end
mutual
theorem eqD_refl (d : D) : eqD d d = true := by
  cases d with
  | non => rfl
  | bl b => simp [eqD]
  | int b => simp [eqD]
  | str b => simp [eqD]
  | tup ds => simp only [eqD]; exact eqDs_refl ds
  | lst ds => simp only [eqD]; exact eqDs_refl ds
theorem eqDs_refl (ds : List D) : eqDs ds ds = true := by
  cases ds with
  | nil => rfl
  | cons d r => simp only [eqDs, Bool.and_eq_true]; exact ⟨eqD_refl d, eqDs_refl r⟩
end
theorem eqDs_len : ∀ {a b : List D}, eqDs a b = true → a.length = b.length
  | [], [], _ => rfl
  | [], _ :: _, h => by simp [eqDs] at h
  | _ :: _, [], h => by simp [eqDs] at h
  | x :: a, y :: b, h => by
    simp only [eqDs, Bool.and_eq_true] at h
    rw [List.length_cons, List.length_cons, eqDs_len h.2]
theorem eqDs_all : ∀ (a b : List D), a.length = b.length → eqDs a b = (List.range a.length).all fun j => match a[j]?, b[j]? with | some x, some y => eqD x y | _, _ => true
  | [], [], _ => by simp [eqDs]
  | [], _ :: _, h => by simp at h
  | _ :: _, [], h => by simp at h
  | x :: a, y :: b, h => by
    have h' : a.length = b.length := by simpa using h
    rw [List.length_cons, List.range_succ_eq_map, List.all_cons, List.all_map]
    simp only [eqDs, eqDs_all a b h']
    congr 1


structure TSame (H H' : Hp) : Prop where
  tup : ∀ b xs, H b = some (.tup xs) → H' b = some (.tup xs)
  frz : ∀ b o u, H b = some (.frz o u) → H' b = some (.frz o u)
section
variable {K : PySem.W.Frag} {H H' H1 H2 : Hp} {a l p : Addr} {xs : List V} {o : HO}
theorem TSame.refl : TSame H H := ⟨fun _ _ h => h, fun _ _ _ h => h⟩
theorem TSame.trans (x : TSame H H1) (y : TSame H1 H2) : TSame H H2 := ⟨fun b xs h => y.tup b xs (x.tup b xs h), fun b o u h => y.frz b o u (x.frz b o u h)⟩
theorem Same.t (x : Same H H') : TSame H H' := ⟨fun b xs h => x b _ h, fun b o u h => x b _ h⟩
theorem TSame.new (h : H l = none) : TSame H (upd H l o) := ⟨fun b xs e => by rw [upd_ne (ne_of_none e h)]; exact e, fun b ob u e => by rw [upd_ne (ne_of_none e h)]; exact e⟩
theorem TSame.lst (h : H l = some (.lst xs)) : TSame H (upd H l o) := ⟨fun b ys e => by rw [upd_ne (ne_of e h (by intro z; cases z))]; exact e, fun b ob u e => by rw [upd_ne (ne_of e h (by intro z; cases z))]; exact e⟩
theorem Same.new (h : H l = none) : Same H (upd H l o) := fun b u e => by rw [upd_ne (ne_of_none e h)]; exact e

theorem Same.turn (x : Same H H1) (h : H l = none) : Same H (upd H1 l o) := fun b u e => by rw [upd_ne (ne_of_none e h)]; exact x b u e
theorem SqT.t (x : TSame H H') (h : SqT K H a xs) : SqT K H' a xs := by
  rcases h with (h | ⟨o, h⟩) | h
  · exact .inl (.inl (x.tup _ _ h))
  · exact .inl (.inr ⟨o, x.frz _ _ _ h⟩)
  · exact .inr h
theorem Same.seqT (x : Same H H') (h : SqT K H a xs) : SqT K H' a xs := h.t x.t
theorem SqL.up (h : SqL K H a xs) (hn : H l = none ∨ (∃ ys, H l = some (.tup ys))) : SqL K (upd H l o) a xs := by
  rcases h with (h | ⟨o, h⟩) | h
  · refine .inl (.inl ?_)
    rw [upd_ne]
    · exact h
    · rcases hn with z | ⟨ys, z⟩
      · exact ne_of_none h z
      · exact ne_of h z (by intro q; cases q)
  · refine .inl (.inr ⟨o, ?_⟩)
    rw [upd_ne]
    · exact h
    · rcases hn with z | ⟨ys, z⟩
      · exact ne_of_none h z
      · exact ne_of h z (by intro q; cases q)
  · exact .inr h
mutual
theorem Rep.t (x : TSame H H') {v : V} {d : D} (hi : imm d = true) (h : Rep K H v d) : Rep K H' v d := by
  cases d with
  | non => exact h
  | bl b => exact h
  | int i => exact h
  | str x => exact h
  | tup ds =>
    obtain ⟨a, vs, e, q, r⟩ := h
    exact ⟨a, vs, e, q.t x, Reps.t x (by simpa [imm] using hi) r⟩
  | lst ds => simp [imm] at hi
theorem Reps.t (x : TSame H H') {vs : List V} {ds : List D} (hi : imms ds = true) (h : Reps K H vs ds) : Reps K H' vs ds := by
  cases ds with
  | nil => exact h
  | cons d r =>
    obtain ⟨v, q, e, h1, h2⟩ := h
    simp only [imms, Bool.and_eq_true] at hi
    exact ⟨v, q, e, Rep.t x hi.1 h1, Reps.t x hi.2 h2⟩
end
mutual
theorem Rep.same (x : Same H H') {v : V} {d : D} (h : Rep K H v d) : Rep K H' v d := by
  cases d with
  | non => exact h
  | bl b => exact h
  | int i => exact h
  | str x => exact h
  | tup ds =>
    obtain ⟨a, vs, e, q, r⟩ := h
    exact ⟨a, vs, e, x.seqT q, Reps.same x r⟩
  | lst ds =>
    obtain ⟨a, vs, e, q, r⟩ := h
    exact ⟨a, vs, e, x.seq q, Reps.same x r⟩
theorem Reps.same (x : Same H H') {vs : List V} {ds : List D} (h : Reps K H vs ds) : Reps K H' vs ds := by
  cases ds with
  | nil => exact h
  | cons d r =>
    obtain ⟨v, q, e, h1, h2⟩ := h
    exact ⟨v, q, e, Rep.same x h1, Reps.same x h2⟩
end
theorem Reps.length : ∀ {vs : List V} {ds : List D}, Reps K H vs ds → vs.length = ds.length
  | vs, [], h => by cases (show vs = [] from h); rfl
  | vs, d :: ds, h => by
    obtain ⟨v, r, rfl, _, h2⟩ := h
    rw [List.length_cons, List.length_cons, Reps.length h2]
theorem Reps.get : ∀ {vs : List V} {ds : List D} {i : Nat} {d : D}, Reps K H vs ds → ds[i]? = some d → ∃ v, vs[i]? = some v ∧ Rep K H v d
  | vs, [], i, d, h, e => by simp at e
  | vs, d0 :: ds, 0, d, h, e => by
    obtain ⟨v, r, rfl, h1, _⟩ := h
    simp only [List.getElem?_cons_zero, Option.some.injEq] at e
    subst e
    exact ⟨v, by simp, h1⟩
  | vs, d0 :: ds, i + 1, d, h, e => by
    obtain ⟨v, r, rfl, _, h2⟩ := h
    obtain ⟨u, e1, e2⟩ := Reps.get (i := i) h2 (by simpa using e)
    exact ⟨u, by simpa using e1, e2⟩
theorem Reps.getV : ∀ {vs : List V} {ds : List D} {i : Nat} {v : V}, Reps K H vs ds → vs[i]? = some v → ∃ d, ds[i]? = some d ∧ Rep K H v d := fun {vs ds i v} h e => by
  have hl := h.length
  have hi : i < vs.length := (List.getElem?_eq_some_iff.mp e).1
  obtain ⟨d, hd⟩ : ∃ d, ds[i]? = some d := ⟨ds[i]'(by omega), by simp <;> omega⟩
  obtain ⟨u, e1, e2⟩ := h.get hd
  rw [e] at e1
  cases e1
  exact ⟨d, hd, e2⟩
theorem Reps.append : ∀ {vs ws : List V} {ds es : List D}, Reps K H vs ds → Reps K H ws es → Reps K H (vs ++ ws) (ds ++ es)
  | vs, ws, [], es, h, h' => by cases (show vs = [] from h); exact h'
  | vs, ws, d :: ds, es, h, h' => by
    obtain ⟨v, r, rfl, h1, h2⟩ := h
    exact ⟨v, r ++ ws, rfl, h1, Reps.append h2 h'⟩
theorem Reps.one {v : V} {d : D} (h : Rep K H v d) : Reps K H [v] [d] := ⟨v, [], rfl, h, rfl⟩
theorem Reps.snoc {vs : List V} {ds : List D} {v : V} {d : D} (h : Reps K H vs ds) (h' : Rep K H v d) : Reps K H (vs ++ [v]) (ds ++ [d]) := h.append (.one h')
theorem Reps.take : ∀ {vs : List V} {ds : List D} (n : Nat), Reps K H vs ds → Reps K H (vs.take n) (ds.take n)
  | vs, ds, 0, h => by simp [Reps]
  | vs, [], n + 1, h => by cases (show vs = [] from h); simp [Reps]
  | vs, d :: ds, n + 1, h => by
    obtain ⟨v, r, rfl, h1, h2⟩ := h
    exact ⟨v, r.take n, rfl, h1, Reps.take n h2⟩
theorem Reps.drop : ∀ {vs : List V} {ds : List D} (n : Nat), Reps K H vs ds → Reps K H (vs.drop n) (ds.drop n)
  | vs, ds, 0, h => h
  | vs, [], n + 1, h => by cases (show vs = [] from h); simp [Reps]
  | vs, d :: ds, n + 1, h => by
    obtain ⟨v, r, rfl, h1, h2⟩ := h
    exact Reps.drop n h2

def cutD (ds : List D) (lo hi : Option Int) : List D := (ds.drop (HT.sIx ds.length 0 lo)).take (HT.sIx ds.length ds.length hi - HT.sIx ds.length 0 lo)
theorem Reps.cut {vs : List V} {ds : List D} (lo hi : Option Int) (h : Reps K H vs ds) : Reps K H (cutV vs lo hi) (cutD ds lo hi) := by
  unfold cutV cutD
  rw [h.length]
  exact (h.drop _).take _

def nums (ns : List Int) : List D := ns.map D.int
abbrev tI (ns : List Int) : D := .tup (nums ns)
theorem imms_nums : ∀ ns : List Int, imms (nums ns) = true
  | [] => rfl
  | n :: ns => by show (imm (.int n) && imms (nums ns)) = true; rw [imms_nums ns]; rfl
theorem imm_tI (ns : List Int) : imm (tI ns) = true := imms_nums ns
theorem eqDs_nums : ∀ a b : List Int, eqDs (nums a) (nums b) = decide (a = b)
  | [], [] => by simp [nums, eqDs]
  | [], _ :: _ => by simp [nums, eqDs]
  | _ :: _, [] => by simp [nums, eqDs]
  | x :: a, y :: b => by
    show (eqD (.int x) (.int y) && eqDs (nums a) (nums b)) = _
    rw [eqDs_nums a b]
    simp only [eqD]
    by_cases e : x = y
    · subst e; by_cases e2 : a = b <;> simp [e2]
    · simp [e]
theorem reps_nums : ∀ {vs : List V} {ns : List Int}, Reps K H vs (nums ns) ↔ vs = ns.map V.int
  | vs, [] => Iff.rfl
  | vs, n :: ns => by
    constructor
    · rintro ⟨v, r, rfl, h1, h2⟩
      have h1' : v = .int n := h1
      rw [h1', reps_nums.mp h2]; rfl
    · rintro rfl
      exact ⟨.int n, ns.map V.int, rfl, rfl, reps_nums.mpr rfl⟩
end


section
variable {X : Cx} {pins : List (Addr × Obj)} {σ : St} {H : Hp} {s : Shared}
theorem notBoth (I : Inv X pins σ H s) {a : Addr} {xs ys : List V} (h : SqT X.K H a xs) (h' : SqL X.K H a ys) : False := by
  obtain ⟨its, r, ⟨o, e, c, n, d⟩, _⟩ := I.tuple h
  obtain ⟨its', r', ⟨o', n', e', c', _, d'⟩, _⟩ := I.list h'
  rw [e] at e'; cases e'
  rw [c] at c'
  have z : ("tuple" : String) = "list" := by injection c'
  exact absurd z (by decide)
mutual
theorem Rep.inj (I : Inv X pins σ H s) {v : V} {d e : D} (h : Rep X.K H v d) (h' : Rep X.K H v e) : d = e := by
  cases d with
  | non => cases (show v = .non from h); cases e <;> first | rfl | (exfalso; first | (cases (show V.non = _ from h')) | (obtain ⟨_, _, z, _⟩ := h'; cases z))
  | bl b => cases (show v = .bl b from h); cases e <;> first | (cases (show V.bl b = _ from h'); rfl) | (exfalso; first | (cases (show V.bl b = _ from h')) | (obtain ⟨_, _, z, _⟩ := h'; cases z))
  | int b => cases (show v = .int b from h); cases e <;> first | (cases (show V.int b = _ from h'); rfl) | (exfalso; first | (cases (show V.int b = _ from h')) | (obtain ⟨_, _, z, _⟩ := h'; cases z))
  | str b => cases (show v = .str b from h); cases e <;> first | (cases (show V.str b = _ from h'); rfl) | (exfalso; first | (cases (show V.str b = _ from h')) | (obtain ⟨_, _, z, _⟩ := h'; cases z))
  | tup ds =>
    obtain ⟨a, vs, rfl, q, r⟩ := h
    cases e with
    | tup es =>
      obtain ⟨b, ws, z, q', r'⟩ := h'
      cases z
      have e1 := I.tuple_inj q q'
      subst e1
      rw [Reps.inj I r r']
    | lst es =>
      obtain ⟨b, ws, z, q', r'⟩ := h'
      cases z
      exact (notBoth I q q').elim
    | non => cases (show V.ref a = _ from h')
    | bl _ => cases (show V.ref a = _ from h')
    | int _ => cases (show V.ref a = _ from h')
    | str _ => cases (show V.ref a = _ from h')
  | lst ds =>
    obtain ⟨a, vs, rfl, q, r⟩ := h
    cases e with
    | lst es =>
      obtain ⟨b, ws, z, q', r'⟩ := h'
      cases z
      have e1 := I.list_inj q q'
      subst e1
      rw [Reps.inj I r r']
    | tup es =>
      obtain ⟨b, ws, z, q', r'⟩ := h'
      cases z
      exact (notBoth I q' q).elim
    | non => cases (show V.ref a = _ from h')
    | bl _ => cases (show V.ref a = _ from h')
    | int _ => cases (show V.ref a = _ from h')
    | str _ => cases (show V.ref a = _ from h')
theorem Reps.inj (I : Inv X pins σ H s) {vs : List V} {ds es : List D} (h : Reps X.K H vs ds) (h' : Reps X.K H vs es) : ds = es := by
  cases ds with
  | nil =>
    cases (show vs = [] from h)
    cases es with
    | nil => rfl
    | cons e es => obtain ⟨_, _, z, _⟩ := h'; cases z
  | cons d ds =>
    obtain ⟨v, r, rfl, h1, h2⟩ := h
    cases es with
    | nil => cases (show v :: r = [] from h')
    | cons e es =>
      obtain ⟨v', r', z, h1', h2'⟩ := h'
      cases z
      rw [Rep.inj I h1 h1', Reps.inj I h2 h2']
end


def EqD (X : Cx) (H : Hp) (s : Shared) (d : D) : Prop := ∀ (A : Around) (x y : V) (u v : Value) (e : D), A.units + dep d < cLine → Rep X.K H x d → Rep X.K H y e → RelV x u → RelV y v → RcAt A s u v (eqD d e) ∧ EqAt A s u v (eqD d e)
theorem seq_eq (I : Inv X pins σ H s) {ds es : List D} {vs ws : List V} {us us' : List Value} {A : Around} (hu : A.units + deps ds < cLine) (r : Reps X.K H vs ds) (r' : Reps X.K H ws es) (rv : Vals vs us) (rv' : Vals ws us')
    (ih : ∀ d ∈ ds, EqD X H s d) (hdm : ∀ d ∈ ds, dep d ≤ deps ds) : ∀ j (h1 : j < us.toArray.size) (h2 : j < us'.toArray.size), EqAt A s us.toArray[j] us'.toArray[j] (match ds[j]?, es[j]? with | some x, some y => eqD x y | _, _ => true) := by
  intro j h1 h2
  have l1 := r.length
  have l2 := r'.length
  have l3 := rv.length
  have l4 := rv'.length
  have h1' : j < us.length := by simpa using h1
  have h2' : j < us'.length := by simpa using h2
  have e1 : ds[j]? = some (ds[j]'(by omega)) := by simp <;> omega
  have e2 : es[j]? = some (es[j]'(by omega)) := by simp <;> omega
  obtain ⟨v, ev, rd⟩ := r.get e1
  obtain ⟨w, ew, re⟩ := r'.get e2
  obtain ⟨u, eu, ru⟩ := rv.get ev
  obtain ⟨u', eu', ru'⟩ := rv'.get ew
  have f1 : us.toArray[j] = u := by
    have : us[j]? = some us[j] := by simp
    rw [eu] at this
    have := (Option.some.inj this).symm
    simpa using this
  have f2 : us'.toArray[j] = u' := by
    have : us'[j]? = some us'[j] := by simp
    rw [eu'] at this
    have := (Option.some.inj this).symm
    simpa using this
  rw [f1, f2, e1, e2]
  have hm : ds[j]'(by omega) ∈ ds := List.getElem_mem _
  exact (ih _ hm A v w u u' _ (by have := hdm _ hm; omega) rd re ru ru').2
theorem deps_le : ∀ {ds : List D} {d : D}, d ∈ ds → dep d ≤ deps ds
  | d0 :: ds, d, h => by
    simp only [deps]
    rcases List.mem_cons.mp h with rfl | h
    · omega
    · have := deps_le h; omega
theorem range_min {a b : List D} (h : ¬ a.length = b.length) : eqDs a b = false := by
  cases q : eqDs a b with
  | false => rfl
  | true => exact absurd (eqDs_len q) h
mutual
theorem eqD_ok (I : Inv X pins σ H s) (d : D) : EqD X H s d := by
  intro A x y u v e hu hx hy rx ry
  cases d with
  | non =>
    cases (show x = .non from hx)
    cases (show u = Value.none from rx)
    cases e with
    | non => cases (show y = .non from hy); cases (show v = Value.none from ry); exact ⟨.none_none, .same _⟩
    | bl b => cases (show y = .bl b from hy); cases (show v = Value.bool b from ry); exact ⟨.none_bool b, .none_bool b⟩
    | int i => cases (show y = .int i from hy); obtain ⟨t, rfl⟩ := ry; exact ⟨.none_int i t, .none_int i t⟩
    | str z => cases (show y = .str z from hy); obtain ⟨t, rfl⟩ := ry; exact ⟨.none_str z t, .none_str z t⟩
    | tup es => obtain ⟨a, vs, rfl, q, r⟩ := hy; cases ry; obtain ⟨its, _, p, _⟩ := I.tuple q; exact ⟨.none_tuple p (by omega), .none_tuple p (by omega)⟩
    | lst es => obtain ⟨a, vs, rfl, q, r⟩ := hy; cases ry; obtain ⟨its, _, p, _⟩ := I.list q; exact ⟨.none_list p.isList (by omega), .none_list p.isList (by omega)⟩
  | bl c =>
    cases (show x = .bl c from hx)
    cases (show u = Value.bool c from rx)
    cases e with
    | non => cases (show y = .non from hy); cases (show v = Value.none from ry); exact ⟨.bool_none c, .bool_none c⟩
    | bl b => cases (show y = .bl b from hy); cases (show v = Value.bool b from ry); exact ⟨.bool_bool c b, .bool_bool c b⟩
    | int i => cases (show y = .int i from hy); obtain ⟨t, rfl⟩ := ry; exact ⟨.bool_int c i t, .bool_int c i t⟩
    | str z => cases (show y = .str z from hy); obtain ⟨t, rfl⟩ := ry; exact ⟨.bool_str c z t, .bool_str c z t⟩
    | tup es => obtain ⟨a, vs, rfl, q, r⟩ := hy; cases ry; obtain ⟨its, _, p, _⟩ := I.tuple q; exact ⟨.bool_tuple c p (by omega), .bool_tuple c p (by omega)⟩
    | lst es => obtain ⟨a, vs, rfl, q, r⟩ := hy; cases ry; obtain ⟨its, _, p, _⟩ := I.list q; exact ⟨.bool_list c p.isList (by omega), .bool_list c p.isList (by omega)⟩
  | int c =>
    cases (show x = .int c from hx)
    obtain ⟨t, rfl⟩ := rx
    cases e with
    | non => cases (show y = .non from hy); cases (show v = Value.none from ry); exact ⟨.int_none c t, .int_none c t⟩
    | bl b => cases (show y = .bl b from hy); cases (show v = Value.bool b from ry); exact ⟨.int_bool c t b, .int_bool c t b⟩
    | int i => cases (show y = .int i from hy); obtain ⟨t', rfl⟩ := ry; exact ⟨.int_int c t i t', .int_int c t i t'⟩
    | str z => cases (show y = .str z from hy); obtain ⟨t', rfl⟩ := ry; exact ⟨.int_str c t z t', .int_str c t z t'⟩
    | tup es => obtain ⟨a, vs, rfl, q, r⟩ := hy; cases ry; obtain ⟨its, _, p, _⟩ := I.tuple q; exact ⟨.int_tuple c t p (by omega), .int_tuple c t p (by omega)⟩
    | lst es => obtain ⟨a, vs, rfl, q, r⟩ := hy; cases ry; obtain ⟨its, _, p, _⟩ := I.list q; exact ⟨.int_list c t p.isList (by omega), .int_list c t p.isList (by omega)⟩
  | str c =>
    cases (show x = .str c from hx)
    obtain ⟨t, rfl⟩ := rx
    cases e with
    | non => cases (show y = .non from hy); cases (show v = Value.none from ry); exact ⟨.str_none c t, .str_none c t⟩
    | bl b => cases (show y = .bl b from hy); cases (show v = Value.bool b from ry); exact ⟨.str_bool c t b, .str_bool c t b⟩
    | int i => cases (show y = .int i from hy); obtain ⟨t', rfl⟩ := ry; exact ⟨.str_int c t i t', .str_int c t i t'⟩
    | str z => cases (show y = .str z from hy); obtain ⟨t', rfl⟩ := ry; exact ⟨.str_str c t z t', .str_str c t z t'⟩
    | tup es => obtain ⟨a, vs, rfl, q, r⟩ := hy; cases ry; obtain ⟨its, _, p, _⟩ := I.tuple q; exact ⟨.str_tuple c t p (by omega), .str_tuple c t p (by omega)⟩
    | lst es => obtain ⟨a, vs, rfl, q, r⟩ := hy; cases ry; obtain ⟨its, _, p, _⟩ := I.list q; exact ⟨.str_list c t p.isList (by omega), .str_list c t p.isList (by omega)⟩
  | tup ds =>
    have hx' := hx
    obtain ⟨a, vs, rfl, q, r⟩ := hx
    cases rx
    obtain ⟨its, rv, p, _⟩ := I.tuple q
    have hu' : A.units + 1 + deps ds < cLine := by simp only [dep] at hu; omega
    cases e with
    | non => cases (show y = .non from hy); cases (show v = Value.none from ry); exact ⟨.tuple_none p (by omega), .tuple_none p (by omega)⟩
    | bl b => cases (show y = .bl b from hy); cases (show v = Value.bool b from ry); exact ⟨.tuple_bool b p (by omega), .tuple_bool b p (by omega)⟩
    | int i => cases (show y = .int i from hy); obtain ⟨t', rfl⟩ := ry; exact ⟨.tuple_int i t' p (by omega), .tuple_int i t' p (by omega)⟩
    | str z => cases (show y = .str z from hy); obtain ⟨t', rfl⟩ := ry; exact ⟨.tuple_str z t' p (by omega), .tuple_str z t' p (by omega)⟩
    | lst es => obtain ⟨b, ws, rfl, q', r'⟩ := hy; cases ry; obtain ⟨its', _, p', _⟩ := I.list q'; exact ⟨.tuple_list p p'.isList (by omega), .tuple_list p p'.isList (by omega)⟩
    | tup es =>
      have hy' := hy
      obtain ⟨b, ws, rfl, q', r'⟩ := hy
      cases ry
      obtain ⟨its', rv', p', _⟩ := I.tuple q'
      have main : RcAt A s (.ref a) (.ref b) (eqD (.tup ds) (.tup es)) := by
        have := RcAt.tuples (A := A) p p' (by omega) (seq_eq I (A := A.in1) (by show A.units + 1 + deps ds < cLine; omega) r r' rv rv' (eqDs_ok I ds) fun d h => deps_le h)
        have l1 := r.length
        have l2 := r'.length
        have l3 := rv.length
        have l4 := rv'.length
        have e1 : its.toArray.size = ds.length := by simp <;> omega
        have e2 : its'.toArray.size = es.length := by simp <;> omega
        rw [e1, e2] at this
        simp only [eqD]
        by_cases hl : ds.length = es.length
        · rw [eqDs_all ds es hl]
          rw [← hl, Nat.min_self] at this
          simpa using this
        · rw [range_min hl]
          have z : (ds.length == es.length) = false := by simpa using hl
          rw [z, Bool.and_false] at this
          exact this
      refine ⟨main, ?_⟩
      by_cases hab : a = b
      · subst hab
        have e3 : D.tup ds = D.tup es := Rep.inj I hx' hy'
        rw [e3, eqD_refl]
        exact .same _
      · exact .of_refs hab main
  | lst ds =>
    have hx' := hx
    obtain ⟨a, vs, rfl, q, r⟩ := hx
    cases rx
    obtain ⟨its, rv, p, _⟩ := I.list q
    have hu' : A.units + 1 + deps ds < cLine := by simp only [dep] at hu; omega
    cases e with
    | non => cases (show y = .non from hy); cases (show v = Value.none from ry); exact ⟨.list_none p.isList (by omega), .list_none p.isList (by omega)⟩
    | bl b => cases (show y = .bl b from hy); cases (show v = Value.bool b from ry); exact ⟨.list_bool b p.isList (by omega), .list_bool b p.isList (by omega)⟩
    | int i => cases (show y = .int i from hy); obtain ⟨t', rfl⟩ := ry; exact ⟨.list_int i t' p.isList (by omega), .list_int i t' p.isList (by omega)⟩
    | str z => cases (show y = .str z from hy); obtain ⟨t', rfl⟩ := ry; exact ⟨.list_str z t' p.isList (by omega), .list_str z t' p.isList (by omega)⟩
    | tup es => obtain ⟨b, ws, rfl, q', r'⟩ := hy; cases ry; obtain ⟨its', _, p', _⟩ := I.tuple q'; exact ⟨.list_tuple p.isList p' (by omega), .list_tuple p.isList p' (by omega)⟩
    | lst es =>
      have hy' := hy
      obtain ⟨b, ws, rfl, q', r'⟩ := hy
      cases ry
      obtain ⟨its', rv', p', _⟩ := I.list q'
      have main : RcAt A s (.ref a) (.ref b) (eqD (.lst ds) (.lst es)) := by
        have l1 := r.length
        have l2 := r'.length
        have l3 := rv.length
        have l4 := rv'.length
        have e1 : its.toArray.size = ds.length := by simp <;> omega
        have e2 : its'.toArray.size = es.length := by simp <;> omega
        simp only [eqD]
        by_cases hl : ds.length = es.length
        · have := RcAt.lists (A := A) p.isList p'.isList (by omega) (by omega) (seq_eq I (A := A.in1) (by show A.units + 1 + deps ds < cLine; omega) r r' rv rv' (eqDs_ok I ds) fun d h => deps_le h)
          rw [e1] at this
          rw [eqDs_all ds es hl]
          exact this
        · rw [range_min hl]
          exact RcAt.lists_lengths p.isList p'.isList (by simpa [e1, e2] using hl) (by omega)
      refine ⟨main, ?_⟩
      by_cases hab : a = b
      · subst hab
        have e3 : D.lst ds = D.lst es := Rep.inj I hx' hy'
        rw [e3, eqD_refl]
        exact .same _
      · exact .of_refs hab main
theorem eqDs_ok (I : Inv X pins σ H s) (ds : List D) : ∀ d ∈ ds, EqD X H s d := by
  cases ds with
  | nil => exact fun _ h => nomatch h
  | cons d0 r =>
    intro d h
    rcases List.mem_cons.mp h with e | h
    · exact e ▸ eqD_ok I d0
    · exact eqDs_ok I r d h
end

def rEqD (K : PySem.W.Frag) (n : Nat) : R2 := fun x y H Q => ∃ d e, Rep K H x d ∧ Rep K H y e ∧ dep d ≤ n ∧ Q (.bl (eqD d e)) H
theorem op_eqD {n : Nat} (hu : X.A.units + n < cLine) : OpR X (compareOp .Eq) (rEqD X.K n) := by
  intro pins s σ H x y v u Q I rx ry h
  obtain ⟨d, e, hd, he, hn, q⟩ := h
  exact (eqD_ok I d X.A x y v u e (by omega) hd he rx ry).1 X.prog X.w X.xe _ ⟨.bl (eqD d e), H, I, rfl, q⟩
end
end L2

set_option Elab.async false
set_option linter.all false
set_option maxRecDepth 100000
set_option maxHeartbeats 4000000
namespace L2
open PySem PySem.Spec PyProof.Rows PySem.SeqAt

section
variable {X : Cx}



noncomputable def eqF (X : Cx) (H : Hp) (d : D) (u : Value) : Bool := @decide (∃ v e, RelV v u ∧ Rep X.K H v e ∧ eqD e d = true) (Classical.propDecidable _)
def SeqD (K : PySem.W.Frag) (H : Hp) (y : V) (ds : List D) : Prop := Rep K H y (.lst ds) ∨ Rep K H y (.tup ds)
def rInD (K : PySem.W.Frag) (n : Nat) (neg : Bool) : R2 := fun x y H Q => ∃ d ds, Rep K H x d ∧ SeqD K H y ds ∧ deps ds + 1 ≤ n ∧ Q (.bl (if neg then !(ds.any fun e => eqD e d) else ds.any fun e => eqD e d)) H
def rIndex (K : PySem.W.Frag) (n : Nat) : V → List V → Hp → VK → Prop := fun x vs H Q => ∃ ds y d j, vs = [y] ∧ Rep K H x (.lst ds) ∧ Rep K H y d ∧ deps ds + 1 ≤ n ∧ ds.findIdx? (fun e => eqD e d) = some j ∧ Q (.int (j : Nat)) H
def NeD (X : Cx) (H : Hp) : Prop := True
def rNeD (K : PySem.W.Frag) (n : Nat) : R2 := fun x y H Q => ∃ d e, Rep K H x d ∧ Rep K H y e ∧ dep d ≤ n ∧ Q (.bl (!eqD d e)) H
def isD (n : String) : D → Bool
  | .non => false
  | .bl _ => n == "int" || n == "bool"
  | .int _ => n == "int"
  | .str _ => n == "str"
  | .tup _ => n == "tuple"
  | .lst _ => n == "list"
def tyD : D → String
  | .non => "NoneType"
  | .bl _ => "bool"
  | .int _ => "int"
  | .str _ => "str"
  | .tup _ => "tuple"
  | .lst _ => "list"
theorem kit_ok {K : PySem.W.Frag} {n : String} {d : D} (hn : n = "int" ∨ n = "bool" ∨ n = "str" ∨ n = "tuple" ∨ n = "list" ∨ n = "dict") : PySem.W.kitOne K (.type (tyD d)) (.type n) = some (isD n d) := by
  rcases hn with rfl | rfl | rfl | rfl | rfl | rfl <;> cases d <;> (unfold PySem.W.kitOne PySem.W.kitCls PySem.W.subIn tyD isD; first | rfl | decide +kernel)
theorem call_isinst : CallR X (.builtin "isinstance") (fun xs H Q => ∃ x n d, xs = [x, .ty n] ∧ (n = "int" ∨ n = "bool" ∨ n = "str" ∨ n = "tuple" ∨ n = "list" ∨ n = "dict") ∧ Rep X.K H x d ∧ Q (.bl (isD n d)) H) := by
  intro pins s σ H xs us Q I r h
  obtain ⟨x, n, d, rfl, hn, hx, q⟩ := h
  obtain ⟨u, v, rfl, rx, rt⟩ := vals2 r
  cases rt
  have k := kit_ok (K := X.K) (d := d) hn
  have fin : ∀ tk, EP X pins σ Q (.bool (isD n d)) { s with toks := tk } := fun tk => ⟨.bl (isD n d), H, I.tok tk, rfl, q⟩
  cases d with
  | non => cases (show x = .non from hx); cases (show u = Value.none from rx); exact PySem.W.kia_one PySem.W.kitx_none I.kIn True.intro k (fun z => nomatch z) fin
  | bl b => cases (show x = .bl b from hx); cases (show u = Value.bool b from rx); exact PySem.W.kia_one PySem.W.kitx_bool I.kIn True.intro k (fun z => nomatch z) fin
  | int b => cases (show x = .int b from hx); obtain ⟨t, rfl⟩ := rx; exact PySem.W.kia_one PySem.W.kitx_int I.kIn True.intro k (fun z => nomatch z) fin
  | str b => cases (show x = .str b from hx); obtain ⟨t, rfl⟩ := rx; exact PySem.W.kia_one PySem.W.kitx_str I.kIn True.intro k (fun z => nomatch z) fin
  | tup ds =>
    obtain ⟨a, vs, rfl, hq, _⟩ := hx
    cases rx
    obtain ⟨its, _, ⟨o, e, c, _⟩, _⟩ := I.tuple hq
    exact PySem.W.kia_one PySem.W.kitx_tuple I.kIn ⟨o, e, c⟩ k (fun z => nomatch z) fin
  | lst ds =>
    obtain ⟨a, vs, rfl, hq, _⟩ := hx
    cases rx
    obtain ⟨its, _, ⟨o, _, e, c, _⟩, _⟩ := I.list hq
    exact PySem.W.kia_one PySem.W.kitx_list I.kIn ⟨o, e, c⟩ k (fun z => nomatch z) fin


def rCatW (K : PySem.W.Frag) : R2 := fun x y H Q => ∃ a b xs ys, x = .ref a ∧ y = .ref b ∧ SqT K H a xs ∧ SqT K H b ys ∧ xs.length + ys.length ≤ sizeLine ∧ ∀ p H', Same H H' → SqT K H' p (xs ++ ys) → Q (.ref p) H'
def rSlTW (K : PySem.W.Frag) : V → Option Int → Option Int → Hp → VK → Prop := fun x lo hi H Q => ∃ a xs, x = .ref a ∧ SqT K H a xs ∧
  ¬ (HT.sIx xs.length 0 lo = 0 ∧ HT.sIx xs.length xs.length hi = xs.length) ∧ ∀ p H', Same H H' → SqT K H' p (cutV xs lo hi) → Q (.ref p) H'
def rCatLW (K : PySem.W.Frag) : R2 := fun x y H Q => ∃ l b xs zs, x = .ref l ∧ y = .ref b ∧ SqL K H l xs ∧ SqL K H b zs ∧ xs.length + zs.length ≤ sizeLine ∧ ∀ p, H p = none → Q (.ref p) (upd H p (.lst (xs ++ zs)))
theorem op_catLW : OpR X (binaryOp .Add) (rCatLW X.K) := by
  intro pins s σ H x y v u Q I rx ry h
  obtain ⟨l, b, xs, zs, rfl, rfl, hl, hb, hz, q⟩ := h
  cases rx
  cases ry
  obtain ⟨its, r1, p1, _⟩ := I.list hl
  obtain ⟨its2, r2, p2, _⟩ := I.list hb
  obtain ⟨⟨cls, dd, data, sl⟩, n, ho, hc, hdd, hd⟩ := id p1
  obtain ⟨⟨cls2, dd2, data2, sl2⟩, n2, ho2, hc2, hdd2, hd2⟩ := id p2
  simp only at hc hd hc2 hd2
  subst hc hd hc2 hd2
  refine concat_meets ⟨_, ho, rfl⟩ ⟨_, ho2, rfl⟩ noFill_list_add seq_list_add PySem.F.slot_list_add PySem.F.entry_list_add (PySem.F.args_list_add_2 _ _)
    (list_addW l b its.toArray its2.toArray n n2 dd dd2 sl sl2 (by rw [List.size_toArray, List.size_toArray, ← r1.length, ← r2.length]; exact hz)) ⟨ho, ho2, ?_⟩
  rw [show its.toArray ++ its2.toArray = (its ++ its2).toArray by simp]
  exact ⟨.ref s.heap.objs.size, _, I.lnew (t' := s.toks) (r1.append r2) (by rw [List.length_append]; exact hz), rfl, q _ I.fresh⟩


theorem call_allB (hc : X.calm = true) : CallR X (.builtin "all") (fun xs H Q => ∃ (p : Addr) (bs : List Bool), xs = [.ref p] ∧ SqL X.K H p (bs.map V.bl) ∧ Q (.bl (bs.all id)) H) := by
  intro pins s σ H xs us Q I r h
  obtain ⟨p, bs, rfl, hq, q⟩ := h
  obtain ⟨u, rfl, ru⟩ := vals1 r
  cases ru
  obtain ⟨its, rv, pl, hz⟩ := I.list hq
  have hh : X.A.handled = none := I.ok.hd hc
  have rel : ∀ (i : Nat) (v : Value), its.toArray[i]? = some v → ∃ b, bs[i]? = some b ∧ v = .bool b := fun i v e => by
    have e' : its[i]? = some v := by simpa using e
    have hlt : i < its.length := (List.getElem?_eq_some_iff.mp e').1
    have l1 := rv.length
    rw [List.length_map] at l1
    have hb : bs[i]? = some (bs[i]'(by omega)) := by simp <;> omega
    obtain ⟨u, hu, ru⟩ := rv.get (i := i) (x := V.bl (bs[i]'(by omega))) (by rw [List.getElem?_map, hb]; rfl)
    rw [e'] at hu
    cases hu
    exact ⟨_, hb, ru⟩
  refine call_all_walk (wpAny_pyIter_list pl.isList ?_)
  refine ⟨s.heap.objs.size, [s.heap.objs.size, p], [s.heap.objs.size], its.toArray.size, _, _, fun i => (bs[i]?).getD true, rfl, Walks.list (show X.A.in1.handled = none from hh) s.heap.objs.size p ?_ its.toArray, ⟨⟨_, Heap.get?_push_size _ rfl, rfl, rfl⟩, ?_⟩, ?_, fun h' tk k => ?_⟩
  · obtain ⟨o, _, ho, _⟩ := pl
    exact Nat.ne_of_lt (Heap.lt_size ho)
  · exact pl.isList.at fun o e => Heap.get?_push_of_some _ e
  · intro i v s' Q' E' hv hQ
    obtain ⟨b, hb, rfl⟩ := rel i v hv
    dsimp only at hQ
    rw [hb] at hQ
    exact wpAny_truthy_bool hQ
  · have e : (List.range its.toArray.size).all (fun i => (bs[i]?).getD true) = bs.all id := by
      have l1 := rv.length
      rw [List.length_map] at l1
      rw [List.size_toArray, ← l1]
      rw [Bool.eq_iff_iff, List.all_eq_true, List.all_eq_true]
      constructor
      · intro hx b hb
        obtain ⟨i, hi⟩ := List.getElem?_of_mem hb
        have := hx i (List.mem_range.mpr (List.getElem?_eq_some_iff.mp hi).1)
        rw [hi] at this
        exact this
      · intro hx i hi
        have hlt := List.mem_range.mp hi
        have hb : bs[i]? = some bs[i] := by simp
        rw [hb]
        exact hx _ (List.getElem_mem _)
    rw [e]
    have I1 : Inv X pins σ H { s with heap := h', toks := tk } := I.kept (fun b o e => k b o (by simp; exact Nat.ne_of_lt (Heap.lt_size e)) (Heap.get?_push_of_some _ e))
    exact ⟨.bl (bs.all id), H, I1, rfl, q⟩
end


structure Has (P : Program) (w : World) (K : PySem.W.Frag) (mg : Str → Option Value) (base : Heap) (x : Str) (ps : List Str) (k : Nat) (sp : Sp) : Prop where
  ex : ∃ (f : Addr) (fd : FuncData), mg x = some (.ref f) ∧ PySem.W.keepIn K (.ref f) = true ∧ Binds K fd ps [] ∧ FnOk P w K mg base CX0 k f fd ps sp
theorem Has.mono {P : Program} {w : World} {K : PySem.W.Frag} {mg : Str → Option Value} {base : Heap} {x : Str} {ps : List Str} {j k : Nat} {sp : Sp} (h : Has P w K mg base x ps j sp) (hk : j ≤ k) : Has P w K mg base x ps k sp := by
  obtain ⟨f, fd, h1, h2, h3, h4⟩ := h.ex
  exact ⟨f, fd, h1, h2, h3, h4.mono hk⟩
section
variable {X : Cx} {x : Str} {ps : List Str} {j k : Nat} {sp : Sp} {p pos : Pos} {e : Expr} {es : List Expr} {t : TA}
theorem pe_callH (h : Has X.prog X.w X.K X.mg X.base x ps j sp) (hr : Room k X.A) (hg : Gl X x) (ha : PA X (e :: es) t) (hk : j ≤ k := by decide) (hdb : (x == ("__debug__" : Str)) = false := by decide)
    (he : starEach (e :: es) X.env = (false, eval e X.env) :: starEach es X.env := by rfl) (hpl : (backTo pos (starEach es X.env)).any (·.1) = false := by rfl) : PE X (.Call (.Name x p) (e :: es) [] pos) (tCall sp [] E0 t) := by
  obtain ⟨f, fd, h1, h2, h3, h4⟩ := h.ex
  exact pe_call h4 (hr.mono hk) hg h1 h2 h3 .nil pass0 ha hdb he hpl
end

theorem boot_intT : bootBuiltins "int" = some (.type "int") := by decide +kernel
theorem boot_boolT : bootBuiltins "bool" = some (.type "bool") := by decide +kernel
theorem boot_tupleT : bootBuiltins "tuple" = some (.type "tuple") := by decide +kernel
theorem boot_listT : bootBuiltins "list" = some (.type "list") := by decide +kernel
theorem boot_maxB : bootBuiltins "max" = some (.builtin "max") := by decide +kernel
theorem boot_minB : bootBuiltins "min" = some (.builtin "min") := by decide +kernel
theorem boot_allB : bootBuiltins "all" = some (.builtin "all") := by decide +kernel
theorem boot_isinstanceB : bootBuiltins "isinstance" = some (.builtin "isinstance") := by decide +kernel
end L2

set_option Elab.async false
set_option linter.all false
namespace L2
open PySem PySem.Spec PyProof.Rows

section
variable {X : Cx} {K : PySem.W.Frag} {tg l : Expr} {tl : TE} {n : Nat}
theorem kop_catLW (hK : X.K = K := by rfl) : OpR X (binaryOp .Add) (rCatLW K) := by subst hK; exact op_catLW
theorem ksl_list (hK : X.K = K := by rfl) : SlR X (rSlL K) := by subst hK; exact sl_list
theorem kix_list (hK : X.K = K := by rfl) : IxR X (rIxL K) := by subst hK; exact ix_list
theorem kix_tup (hK : X.K = K := by rfl) : IxR X (rIxT K) := by subst hK; exact ix_tup
theorem kcall_len_seq (hK : X.K = K := by rfl) : CallR X (.builtin "len") (fun xs H Q => ∃ p ys, xs = [.ref p] ∧ (SqL K H p ys ∨ SqT K H p ys) ∧ Q (.int ys.length) H) := by subst hK; exact call_len_seq
theorem kcall_list_of (hK : X.K = K := by rfl) : CallR X (.type "list") (fun xs H Q => ∃ p ys, xs = [.ref p] ∧ (SqL K H p ys ∨ SqT K H p ys) ∧ ∀ l, H l = none → Q (.ref l) (upd H l (.lst ys))) := by subst hK; exact call_list_of
theorem kcall_tuple_of (hK : X.K = K := by rfl) : CallR X (.type "tuple") (fun xs H Q => ∃ p ys, xs = [.ref p] ∧ ((SqL K H p ys ∧ ∀ l, H l = none → Q (.ref l) (upd H l (.tup ys))) ∨ (SqT K H p ys ∧ Q (.ref p) H))) := by subst hK; exact call_tuple_of
theorem kcall_isinst (hK : X.K = K := by rfl) : CallR X (.builtin "isinstance") (fun xs H Q => ∃ x n d, xs = [x, .ty n] ∧ (n = "int" ∨ n = "bool" ∨ n = "str" ∨ n = "tuple" ∨ n = "list" ∨ n = "dict") ∧ Rep K H x d ∧ Q (.bl (isD n d)) H) := by subst hK; exact call_isinst
theorem kcall_allB (hc : X.calm = true) (hK : X.K = K := by rfl) : CallR X (.builtin "all") (fun xs H Q => ∃ (p : Addr) (bs : List Bool), xs = [.ref p] ∧ SqL K H p (bs.map V.bl) ∧ Q (.bl (bs.all id)) H) := by subst hK; exact call_allB hc
theorem kop_eqD (hu : X.A.units + n < cLine) (hK : X.K = K := by rfl) : OpR X (compareOp .Eq) (rEqD K n) := by subst hK; exact op_eqD hu
theorem kpi_list (hl : PE X l tl) (hK : X.K = K := by rfl) : PI X tg l (iList K tl) := by subst hK; exact pi_list hl
variable {o e : Expr} {es : List Expr} {to : TE} {t : TA} {name : Str} {apos cpos : Pos} {T id : String} {r : V → List V → Hp → VK → Prop}
theorem kpe_bm (pa : PlainAttrs T) (slot : Slot T name id) (hty : typeOf (.builtin id) = pure (.type "method_descriptor")) (hm : MtR X id r) (ho : PE X o to) (ha : PA X (e :: es) t) (hK : X.K = K := by rfl)
    (hbase : attributeBase o name X.env (eval o X.env) = eval o X.env := by rfl)
    (hfew : ((backTo cpos (starEach (e :: es) X.env)).all (fun x => !x.1) && (backToKw cpos (keywordEach [] X.env)).all (fun x => x.1.isSome)
      && decide ((e :: es).length + ([] : List Keyword).length + (if ([] : List Keyword).isEmpty then 0 else 1) < 30)) = true := by rfl)
    (hline : (apos.endLine == cpos.line) = true := by rfl) (hs : starEach (e :: es) X.env = (false, eval e X.env) :: starEach es X.env := by rfl) (hplain : (backTo cpos (starEach es X.env)).any (·.1) = false := by rfl) :
    PE X (.Call (.Attribute o name apos) (e :: es) [] cpos) (tBM K T r to t) := by subst hK; exact pe_bm pa slot hty hm ho ha hbase hfew hline hs hplain
theorem kpg_tup {es : List Expr} {k : Nat} {t : TGs} {n : Nat} {pos : Pos} (hc : X.calm = true) (h : PGs X es t) (hK : X.K = K := by rfl)
    (hn : (assignEach es X.env).length = n := by rfl) (hst : (assignEach es X.env).findIdx? (·.1) = none := by rfl) : PG X (.Tuple es k pos) (gTup K n t) := by subst hK; exact pg_tup hc h hn hst
end
end L2

set_option linter.all false

namespace Hb

def facesBy (w : List Int) (fam : Int) : List (List Int) :=
  if fam = 0 then (if w.length < 2 then [] else (List.range w.length).map fun i => w.take i ++ w.drop (i + 1))
  else if w.length = 0 then []
  else if fam < 0 then (if w.length = 1 then [[], []] else w.map fun l => [l])
  else w.drop 1 :: ((List.range (w.length - 1)).map fun i => w.take i ++ [(w.getD i 0 + w.getD (i + 1) 0) % fam] ++ w.drop (i + 2)) ++ [w.take (w.length - 1)]


def Word (fam : Int) (w : List Int) : Prop :=
  (fam = 0 ∧ 1 ≤ w.length ∧ w.length ≤ 4) ∨ (fam < 0 ∧ (w.length = 0 ∨ w.length = 1 ∨ w.length = 3)) ∨ (0 < fam ∧ w.length ≤ 3)
def lv (fam : Int) (w : List Int) : Nat := if fam = 0 then w.length - 1 else if fam < 0 then (if w.length = 3 then 2 else w.length) else w.length


section
variable {fam : Int}
end


def lev (p : List Int) : Nat := p.length - 1

structure Fits (xs : List (List Int)) (p : List Int) : Prop where
  cnt : p.length = 0 ∨ p.length = 2 ∨ p.length = 3 ∨ p.length = 4
  low : ∀ f ∈ p, 0 ≤ f
  bel : ∀ f ∈ p, ∃ q, xs[f.toNat]? = some q ∧ lev q + 1 = lev p
  agr : 3 ≤ p.length → ∀ (i j : Nat) (f g : Int) (q r : List Int), i < j → p[j]? = some f → p[i]? = some g → xs[f.toNat]? = some q → xs[g.toNat]? = some r → q[i]? = r[j - 1]?
def IsShape (xs : List (List Int)) : Prop := ∀ (k : Nat) (p : List Int), xs[k]? = some p → Fits (xs.take k) p


def Ord (fam : Int) (ws : List (List Int)) : Prop := ∀ (k : Nat) (w : List Int), ws[k]? = some w → Word fam w ∧ ∀ f ∈ facesBy w fam, f ∈ ws.take k
theorem Ord.nil {fam : Int} : Ord fam [] := fun k w h => by simp at h
theorem Ord.snoc {fam : Int} {ws : List (List Int)} {w : List Int} (h : Ord fam ws) (hw : Word fam w) (hf : ∀ f ∈ facesBy w fam, f ∈ ws) : Ord fam (ws ++ [w]) := by
  intro k v hk
  by_cases hlt : k < ws.length
  · rw [List.getElem?_append_left hlt] at hk
    rw [List.take_append_of_le_length (by omega)]
    exact h k v hk
  · have hk' : k < (ws ++ [w]).length := (List.getElem?_eq_some_iff.mp hk).1
    have e : k = ws.length := by simp at hk'; omega
    subst e
    simp at hk
    subst hk
    rw [List.take_append_of_le_length (Nat.le_refl _), List.take_length]
    exact ⟨hw, hf⟩
theorem Ord.mem {fam : Int} {ws : List (List Int)} (h : Ord fam ws) {w : List Int} (hw : w ∈ ws) : Word fam w ∧ ∀ f ∈ facesBy w fam, f ∈ ws := by
  obtain ⟨k, hk⟩ := List.getElem?_of_mem hw
  obtain ⟨h1, h2⟩ := h k w hk
  exact ⟨h1, fun f hf => List.mem_of_mem_take (h2 f hf)⟩

def addAll (ws : List (List Int)) : List (List Int) → List (List Int)
  | [] => ws
  | w :: r => addAll (if w ∈ ws then ws else ws ++ [w]) r
def addNew (ws : List (List Int)) : List (List Int) → List (List Int) → List (List Int)
  | acc, [] => acc
  | acc, f :: r => addNew ws (if f ∉ ws ∧ f ∉ acc then acc ++ [f] else acc) r
def below (ws : List (List Int)) (fam : Int) : List (List Int) → List (List Int) → List (List Int)
  | acc, [] => acc
  | acc, w :: r => below ws fam (addNew ws acc (facesBy w fam)) r
def layers (ws : List (List Int)) (fam : Int) : Nat → List (List Int) → List (List Int) → List (List Int)
  | 0, layer, rows => rows
  | n + 1, layer, rows => layers ws fam n (below ws fam [] layer) (layer ++ rows)
def wordsWith (ws : List (List Int)) (w : List Int) (fam : Int) : List (List Int) := addAll ws (layers ws fam 4 [w] [])
def idx (ws : List (List Int)) (f : List Int) : Nat := ws.findIdx (· == f)
def shapeOf (ws : List (List Int)) (fam : Int) : List (List Int) := ws.map fun w => (facesBy w fam).map fun f => (idx ws f : Int)
end Hb

set_option linter.all false
namespace Hb

def pc (xs : List (List Int)) (p : Int) : List Int := xs.getD p.toNat []
def InS (xs : List (List Int)) (p : Int) : Prop := 0 ≤ p ∧ p < (xs.length : Int)
def lastL (l : List Int) : List Int := l.drop (l.length - 1)
def corn (xs : List (List Int)) : Nat → Int → List Int
  | 0, p => [p]
  | n + 1, p => if (pc xs p).length = 0 then [p] else corn xs n ((pc xs p).getD ((pc xs p).length - 1) 0) ++ lastL (corn xs n ((pc xs p).getD 0 0))
section
variable {xs : List (List Int)}
def cor (xs : List (List Int)) (p : Int) : List Int := corn xs 3 p
end
end Hb

set_option Elab.async false
set_option linter.all false
set_option maxRecDepth 100000
set_option maxHeartbeats 4000000

namespace Hb
open PySem L2

def cellAt (ns : List Int) (k : Int) : Int := ns.getD k.toNat 0

abbrev LT (K : PySem.W.Frag) (H : Hp) (v : V) (xs : List (List Int)) : Prop := Rep K H v (.lst (xs.map tI))
abbrev TI (K : PySem.W.Frag) (H : Hp) (v : V) (ns : List Int) : Prop := Rep K H v (tI ns)

section
variable {K : PySem.W.Frag} {H H' : Hp}
theorem TI.sq {v : V} {ns : List Int} (h : TI K H v ns) : ∃ a, v = .ref a ∧ SqT K H a (ns.map V.int) := by
  obtain ⟨a, vs, e, q, r⟩ := h
  rw [reps_nums.mp r] at q
  exact ⟨a, e, q⟩
theorem TI.mk {a : Addr} {ns : List Int} (h : SqT K H a (ns.map V.int)) : TI K H (.ref a) ns := ⟨a, _, rfl, h, reps_nums.mpr rfl⟩
theorem TI.same {v : V} {ns : List Int} (s : Same H H') (h : TI K H v ns) : TI K H' v ns := Rep.same s h
theorem TI.t {v : V} {ns : List Int} (s : TSame H H') (h : TI K H v ns) : TI K H' v ns := Rep.t s (imm_tI ns) h
theorem cut_take (xs : List V) (k : Nat) : cutV xs none (some (k : Int)) = xs.take k := by
  unfold cutV
  rw [HT.sIx_none, HT.sIx_nat, Nat.sub_zero, List.drop_zero, List.take_eq_take_iff]
  omega
theorem cut_drop (xs : List V) (k : Nat) : cutV xs (some (k : Int)) none = xs.drop k := by
  unfold cutV
  rw [HT.sIx_none, HT.sIx_nat]
  by_cases h : k ≤ xs.length
  · rw [Nat.min_eq_left h, List.take_of_length_le (by rw [List.length_drop]; omega)]
  · rw [Nat.min_eq_right (by omega), List.drop_length, List.drop_of_length_le (by omega)]
    simp
def SameX (B : Addr) (H H' : Hp) : Prop := ∀ b o, b ≠ B → H b = some o → H' b = some o
theorem SameX.refl (B : Addr) (H : Hp) : SameX B H H := fun _ _ _ h => h
theorem SameX.trans {B : Addr} {H H1 H2 : Hp} (a : SameX B H H1) (b : SameX B H1 H2) : SameX B H H2 := fun c o n h => b c o n (a c o n h)
theorem SameX.of {B : Addr} {H H1 : Hp} (a : Same H H1) : SameX B H H1 := fun c o _ h => a c o h
theorem SameX.upd {B : Addr} {H H1 : Hp} {o : HO} (a : SameX B H H1) : SameX B H (upd H1 B o) := fun c u n h => by rw [upd_ne n]; exact a c u n h
theorem SameX.t {B : Addr} {H H1 : Hp} {us : List V} (a : SameX B H H1) (h : H B = some (.lst us)) : TSame H H1 :=
  ⟨fun b xs e => a b _ (ne_of e h (by intro z; cases z)) e, fun b o u e => a b _ (ne_of e h (by intro z; cases z)) e⟩
theorem SameX.same {B : Addr} {H0 H H1 : Hp} (a : SameX B H H1) (s : Same H0 H) (h : H0 B = none) : Same H0 H1 := fun b o e => a b o (ne_of_none e h) (s b o e)
theorem deps_nums : ∀ ns : List Int, deps (nums ns) = 0
  | [] => rfl
  | n :: ns => by show max (dep (.int n)) (deps (nums ns)) = 0; rw [deps_nums ns]; rfl
theorem ifP {c A B : Prop} [Decidable c] (hc : c) (h : A) : if c then A else B := by rw [if_pos hc]; exact h
theorem ifN {c A B : Prop} [Decidable c] (hc : ¬ c) (h : B) : if c then A else B := by rw [if_neg hc]; exact h
theorem comp_list0 {g : TG} {te : TE} {D : Addr} {Q : Hp → Prop} {τ : St} {H : Hp} {K : PySem.W.Frag} {a : Addr} {xs : List V} (Pv : Nat → List V → St → Hp → Prop) (h0 : Pv 0 [] τ H) (hl : ∀ i ys τ H, i ≤ xs.length → Pv i ys τ H → SqL K H a xs)
    (hs : ∀ i x ys τ H, xs[i]? = some x → Pv i ys τ H → g x τ H fun τ2 H2 => te τ2 H2 fun y H4 => H4 D = some (.lst ys) ∧ ys.length < sizeLine ∧ Pv (i + 1) (ys ++ [y]) τ2 (upd H4 D (.lst (ys ++ [y]))))
    (hd : ∀ ys τ H, Pv xs.length ys τ H → Q H) : RunC (Itl K a) g tYes te D Q τ H := comp_list Pv h0 hl (fun i x ys τ H e p => hs i x ys τ H e p) hd
theorem comp_range0 {g : TG} {te : TE} {D : Addr} {Q : Hp → Prop} {τ : St} {H : Hp} {lo : Int} {n : Nat} (Pv : Nat → List V → St → Hp → Prop) (h0 : Pv 0 [] τ H)
    (hs : ∀ i ys τ H, i < n → Pv i ys τ H → g (.int (lo + i)) τ H fun τ2 H2 => te τ2 H2 fun y H4 => H4 D = some (.lst ys) ∧ ys.length < sizeLine ∧ Pv (i + 1) (ys ++ [y]) τ2 (upd H4 D (.lst (ys ++ [y]))))
    (hd : ∀ ys τ H, Pv n ys τ H → Q H) : RunC (Itr lo n) g tYes te D Q τ H := comp_range Pv h0 (fun i ys τ H e p => hs i ys τ H e p) hd
theorem tSeq_cut {t u : TS} {D : Ends} {σ : St} {H : Hp} (P : St → Hp → Prop) (hu : ∀ σ' H', P σ' H' → u D σ' H') (h : (∀ σ' H', P σ' H' → u D σ' H') → tSeq t u D σ H) : tSeq t u D σ H := h hu
theorem small {n : Nat} (h : n ≤ 1000000) : n < sizeLine := Nat.lt_of_le_of_lt h (by decide)
theorem smallE {n : Nat} (h : n ≤ 1000000) : n ≤ sizeLine := Nat.le_of_lt (small h)
end
section
variable (K : PySem.W.Frag)
def sp_cell_at : Sp := fun vs H Q _ => ∃ (a : Addr) (ns : List Int) (k : Int), vs = [.ref a, .int k] ∧ SqL K H a (ns.map V.int) ∧ 0 ≤ k ∧ ns.length ≤ 63 ∧ Q (.int (cellAt ns k)) H

def sp_faces_by : Sp := fun vs H Q _ => ∃ (v : V) (w : List Int) (fam : Int), vs = [v, .int fam] ∧ TI K H v w ∧ Word fam w ∧
  ∀ (p : Addr) (us : List V) (H' : Hp), H p = none → Same H H' → H' p = some (.lst us) → Reps K H' us ((facesBy w fam).map tI) → Q (.ref p) H'
def sp_word_by : Sp := fun vs H Q _ => ∃ (c fam letters : Int), vs = [.int c, .int fam, .int letters] ∧ 0 < letters ∧ letters < 100 ∧ fam < 100 ∧
  ∀ (v : V) (H' : Hp) (w : List Int), Same H H' → TI K H' v w → Word fam w → Q v H'
def sp_words_with : Sp := fun vs H Q _ => ∃ (l : Addr) (us : List V) (v : V) (ws : List (List Int)) (w : List Int) (fam : Int), vs = [.ref l, v, .int fam] ∧ H l = some (.lst us) ∧ Reps K H us (ws.map tI) ∧ TI K H v w ∧ Word fam w ∧ ws.length ≤ 100 ∧
  ∀ (p : Addr) (us' : List V) (H' : Hp), H p = none → Same H H' → H' p = some (.lst us') → Reps K H' us' ((wordsWith ws w fam).map tI) → Q (.ref p) H'

def sp_law : Sp := fun vs H Q _ => ∃ (a : Addr) (ns : List Int), vs = [.ref a] ∧ SqL K H a (ns.map V.int) ∧ ns.length ≤ 63 ∧ ∀ H', Q (.bl true) H'
def sp_shape_by : Sp := fun vs H Q _ => ∃ (a : Addr) (ns : List Int) (kind most : Int), vs = [.int kind, .ref a, .int most] ∧ SqL K H a (ns.map V.int) ∧ ns.length ≤ 63 ∧ 0 ≤ most ∧ most ≤ 100 ∧
  ∀ (p : Addr) (us : List V) (H' : Hp) (xs : List (List Int)), H p = none → Same H H' → H' p = some (.lst us) → Reps K H' us (xs.map tI) → IsShape xs → (xs.length : Int) ≤ most → Q (.ref p) H'
end
end Hb

set_option Elab.async false
set_option linter.all false
set_option maxRecDepth 100000
set_option maxHeartbeats 4000000
namespace Hb
open PySem L2
def wholeD (d : L2.D) : Bool := isD "int" d && !isD "bool" d
def belowD (d : L2.D) (b : Int) : Bool := match d with
  | .int i => decide (0 ≤ i) && decide (i < b)
  | _ => false
def levI (n : Nat) : Int := if (0 : Int) > (n : Int) - 1 then 0 else (n : Int) - 1
def placeLev (xs : List (List Int)) (d : L2.D) (l : Int) : Bool := match d with
  | .int i => decide (0 ≤ i) && decide (i < (xs.length : Int)) && decide (levI (xs.getD i.toNat []).length = l)
  | _ => false
def agreeAt (xs : List (List Int)) (p : List Int) (j i : Nat) : Bool := decide ((xs.getD (p.getD j 0).toNat []).getD i 0 = (xs.getD (p.getD i 0).toNat []).getD (j - 1) 0)
def agreeB (xs : List (List Int)) (p : List Int) : Bool := (List.range p.length).all fun j => (List.range j).all fun i => agreeAt xs p j i
def toI : L2.D → Int
  | .int i => i
  | _ => 0
def cntB (n : Nat) : Bool := n == 0 || n == 2 || n == 3 || n == 4
def fitsD (xs : List (List Int)) (d : L2.D) : Bool := match d with
  | .tup ds => cntB ds.length && ds.all (fun e => placeLev xs e (levI ds.length - 1)) && (decide (levI ds.length < 2) || agreeB xs (ds.map toI))
  | _ => false
section
variable (K : PySem.W.Frag)
def sp_is_whole : Sp := fun vs H Q _ => ∃ (x : V) (d : L2.D), vs = [x] ∧ Rep K H x d ∧ Q (.bl (wholeD d)) H
abbrev sp_L_whole : Sp := sp_is_whole K
def sp_is_whole_below : Sp := fun vs H Q _ => ∃ (x : V) (d : L2.D) (b : Int), vs = [x, .int b] ∧ Rep K H x d ∧ Q (.bl (belowD d b)) H
def sp_level_of : Sp := fun vs H Q _ => ∃ (x : V) (ds : List L2.D), vs = [x] ∧ SeqD K H x ds ∧ Q (.int (levI ds.length)) H
def sp_is_place_of_level : Sp := fun vs H Q _ => ∃ (a : Addr) (x : V) (d : L2.D) (l : Int) (xs : List (List Int)), vs = [.ref a, x, .int l] ∧ LT K H (.ref a) xs ∧ Rep K H x d ∧ Q (.bl (placeLev xs d l)) H
def sp_faces_agree : Sp := fun vs H Q _ => ∃ (a : Addr) (v : V) (xs : List (List Int)) (p : List Int), vs = [.ref a, v] ∧ LT K H (.ref a) xs ∧ TI K H v p ∧ p.length ≤ 4 ∧
  (∀ f ∈ p, 0 ≤ f ∧ f < (xs.length : Int) ∧ (xs.getD f.toNat []).length + 1 = p.length) ∧ Q (.bl (agreeB xs p)) H
def sp_fits : Sp := fun vs H Q _ => ∃ (a : Addr) (th : V) (d : L2.D) (xs : List (List Int)), vs = [.ref a, th] ∧ LT K H (.ref a) xs ∧ Rep K H th d ∧ ∀ H', Same H H' → Q (.bl (fitsD xs d)) H'
abbrev sp_L_fits_by : Sp := sp_fits K
abbrev sp_L_cell_at : Sp := sp_cell_at K
abbrev sp_L_faces_by : Sp := sp_faces_by K
abbrev sp_L_word_by : Sp := sp_word_by K
abbrev sp_L_words_with : Sp := sp_words_with K
abbrev sp_L_shape_by : Sp := sp_shape_by K
end
section
variable {K : PySem.W.Frag} {H : Hp}
theorem LT.get {a : Addr} {xs : List (List Int)} {i : Int} (h : LT K H (.ref a) xs) (h0 : 0 ≤ i) (h1 : i < (xs.length : Int)) : ∃ us v, SqL K H a us ∧ atI us i = some v ∧ TI K H v (xs.getD i.toNat []) := by
  obtain ⟨a', us, e, hq, r⟩ := h
  cases e
  obtain ⟨j, rfl⟩ := Int.eq_ofNat_of_zero_le h0
  have hj : j < xs.length := by omega
  have e : (xs.map tI)[j]? = some (tI xs[j]) := by rw [List.getElem?_map, List.getElem?_eq_getElem hj]; rfl
  obtain ⟨v, hv, tv⟩ := r.get e
  refine ⟨us, v, hq, atI_nat hv, ?_⟩
  rw [Int.toNat_natCast, List.getD_eq_getElem?_getD, List.getElem?_eq_getElem hj]
  exact tv
theorem LT.len {a : Addr} {xs : List (List Int)} (h : LT K H (.ref a) xs) : ∃ us, SqL K H a us ∧ us.length = xs.length := by
  obtain ⟨a', us, e, hq, r⟩ := h
  cases e
  exact ⟨us, hq, by have := r.length; simpa using this⟩
theorem TI.get {v : V} {p : List Int} {i : Int} (h : TI K H v p) (h0 : 0 ≤ i) (h1 : i < (p.length : Int)) : ∃ a, v = .ref a ∧ SqT K H a (p.map V.int) ∧ atI (p.map V.int) i = some (.int (p.getD i.toNat 0)) := by
  obtain ⟨a, e, hq⟩ := h.sq
  refine ⟨a, e, hq, ?_⟩
  obtain ⟨j, rfl⟩ := Int.eq_ofNat_of_zero_le h0
  have hj : j < p.length := by omega
  refine atI_nat ?_
  rw [List.getElem?_map, List.getElem?_eq_getElem hj]
  simp [hj]
end
end Hb

set_option Elab.async false
set_option linter.all false
set_option maxRecDepth 100000
set_option maxHeartbeats 4000000

namespace L2
open PySem PySem.Spec PyProof.Rows

def compCx1 (X : Cx) (sc : Scope) (N' : List Str) (xc : Str) (C c : Addr) (s₀ : Shared) (H₀ : Hp) (fp : List Addr) : Cx where
  prog := X.prog
  w := X.w
  K := X.K
  mg := X.mg
  base := X.base
  A := X.A
  N := N'
  s₀ := s₀
  H₀ := H₀
  env := compEnvC sc ((xc, c) :: clOf X.env.cells sc.names []) C X.env
  outer := X.stack
  stack := X.stack
  ex := fp
  fn := fun x => x == xc
  calm := X.calm
  pn := []
  xe := fun _ _ => False

structure CapOk1 (X : Cx) (sc : Scope) (N' : List Str) (cap : List (Option Nat)) (xc : Str) : Prop where
  kind : sc.kind = .function
  len : cap.length = N'.length
  one : ∀ n cl, cellsFrom n sc.names cl = (xc, n) :: cl
  push : ∀ h, pushCells h sc.names = h.push { cls := .type "cell", data := .cell none }
  own : ∀ x ∈ sc.names, x.2 = NameKind.cell → x.1 = xc
  locals : ∀ x ∈ sc.names, x.2 = NameKind.local → sc.names.lookup x.1 = some NameKind.local
  free : ∀ n, (n, NameKind.free) ∈ sc.names → X.env.kindOf n = some .cell ∨ X.env.kindOf n = some .free
  slots : ∀ (i j : Nat) (x : Str), N'[i]? = some x → cap[i]? = some (some j) → x ≠ xc ∧ X.N[j]? = some x ∧ ((relabel sc X.env).names.lookup x = some .cell ∨ (relabel sc X.env).names.lookup x = some .free) ∧ Vis X.env.scope x

def capB1 (osc : Scope) (N : List Str) (sc : Scope) (N' : List Str) (cap : List (Option Nat)) (xc : Str) : Bool :=
  decide (sc.kind = .function) && decide (cap.length = N'.length) && sc.names.all (fun x => decide (x.2 = NameKind.cell → x.1 = xc)) && sc.names.all (fun x => decide (x.2 = NameKind.local → sc.names.lookup x.1 = some NameKind.local)) &&
  sc.names.all (fun x => decide (x.2 = NameKind.free → (osc.names.lookup x.1 = some .cell ∨ osc.names.lookup x.1 = some .free))) &&
  (N'.zip cap).all (fun p => match p.2 with
    | none => true
    | some j => decide (p.1 ≠ xc) && decide (N[j]? = some p.1) && decide (((sc.names.map fun (n, k) => if (k == .free && osc.kind == .function && osc.names.lookup n == some .cell) then (n, NameKind.cell) else (n, k)).lookup p.1 = some .cell) ∨
        ((sc.names.map fun (n, k) => if (k == .free && osc.kind == .function && osc.names.lookup n == some .cell) then (n, NameKind.cell) else (n, k)).lookup p.1 = some .free)) &&
      decide (osc.names.lookup p.1 = some .local ∨ osc.names.lookup p.1 = some .cell ∨ osc.names.lookup p.1 = some .free))
theorem capB1_ok {X : Cx} {sc : Scope} {N' : List Str} {cap : List (Option Nat)} {xc : Str} (h : capB1 X.env.scope X.N sc N' cap xc = true) (one : ∀ n cl, cellsFrom n sc.names cl = (xc, n) :: cl) (push : ∀ h, pushCells h sc.names = h.push { cls := .type "cell", data := .cell none }) : CapOk1 X sc N' cap xc := by
  unfold capB1 at h
  rw [Bool.and_eq_true, Bool.and_eq_true, Bool.and_eq_true, Bool.and_eq_true, Bool.and_eq_true, List.all_eq_true, List.all_eq_true, List.all_eq_true, List.all_eq_true] at h
  obtain ⟨⟨⟨⟨⟨h1, h2⟩, h3⟩, h4⟩, h5⟩, h6⟩ := h
  refine ⟨of_decide_eq_true h1, of_decide_eq_true h2, one, push, fun x hx => of_decide_eq_true (h3 x hx), fun x hx => of_decide_eq_true (h4 x hx), fun n hn => of_decide_eq_true (h5 _ hn) rfl, fun i j x e1 e2 => ?_⟩
  have hm : (x, some j) ∈ N'.zip cap := by
    have e : (N'.zip cap)[i]? = some (x, some j) := by
      rw [List.getElem?_zip_eq_some]
      exact ⟨e1, e2⟩
    exact List.mem_of_getElem? e
  have h7 := h6 _ hm
  dsimp only at h7
  rw [Bool.and_eq_true, Bool.and_eq_true, Bool.and_eq_true] at h7
  obtain ⟨⟨⟨h0, h8⟩, h9⟩, h10⟩ := h7
  exact ⟨of_decide_eq_true h0, of_decide_eq_true h8, of_decide_eq_true (p := (relabel sc X.env).names.lookup x = some .cell ∨ (relabel sc X.env).names.lookup x = some .free) h9, of_decide_eq_true (p := X.env.scope.names.lookup x = some .local ∨ X.env.scope.names.lookup x = some .cell ∨ X.env.scope.names.lookup x = some .free) h10⟩

section
variable {X : Cx} {sc : Scope} {N' : List Str} {cap : List (Option Nat)} {xc : Str} {pins : List (Addr × Obj)} {σ : St} {H : Hp} {s : Shared} {C c : Addr} {fp : List Addr}
theorem CapOk1.cells (o : CapOk1 X sc N' cap xc) (ok : X.Ok) : ∀ n, (n, NameKind.free) ∈ sc.names → ∃ c, X.env.cells.lookup n = some c := fun n hn => ok.has n (o.free n hn)
theorem relabel_mem1 {env : Env} {x : Str} {k : NameKind} (hnc : ∀ x ∈ sc.names, x.2 = NameKind.cell → x.1 = xc) (h : (relabel sc env).names.lookup x = some k) (hk : k = .cell ∨ k = .free) : (x, NameKind.free) ∈ sc.names ∨ x = xc := by
  have all : ∀ (l : List (Str × NameKind)), (∀ x ∈ l, x.2 = NameKind.cell → x.1 = xc) → (l.map fun (n, k) => if (k == NameKind.free && env.scope.kind == .function && env.kindOf n == some .cell) then (n, NameKind.cell) else (n, k)).lookup x = some k → (x, NameKind.free) ∈ l ∨ x = xc := by
    intro l
    induction l with
    | nil => intro _ h; exact nomatch h
    | cons p r ih =>
      intro hn h
      obtain ⟨n, q⟩ := p
      rw [List.map_cons, List.lookup_cons] at h
      have up : ((x, NameKind.free) ∈ r ∨ x = xc) → ((x, NameKind.free) ∈ (n, q) :: r ∨ x = xc) := fun z => z.elim (fun z => .inl (List.mem_cons_of_mem _ z)) .inr
      by_cases hc : (q == NameKind.free && env.scope.kind == .function && env.kindOf n == some .cell) = true
      · have hq : q = NameKind.free := by
          have := hc
          simp only [Bool.and_eq_true] at this
          simpa using this.1.1
        simp only [hc, if_true] at h
        cases hx : x == n with
        | true =>
          have e : x = n := by simpa using hx
          rw [e, hq]
          exact .inl List.mem_cons_self
        | false =>
          rw [hx] at h
          exact up (ih (fun y hy => hn y (List.mem_cons_of_mem _ hy)) h)
      · simp only [hc] at h
        cases hx : x == n with
        | true =>
          have e : x = n := by simpa using hx
          simp only [Bool.false_eq_true, if_false, hx] at h
          have e2 : q = k := by simpa using h
          rcases hk with z | z
          · exact .inr (e.trans (hn (n, q) List.mem_cons_self (e2.trans z)))
          · rw [e, ← z, ← e2]
            exact .inl List.mem_cons_self
        | false =>
          simp only [Bool.false_eq_true, if_false, hx] at h
          exact up (ih (fun y hy => hn y (List.mem_cons_of_mem _ hy)) h)
  exact all sc.names hnc h
theorem look1 {cl : List (Str × Addr)} {x : Str} {a : Addr} (h : ((xc, c) :: cl).lookup x = some a) : (x = xc ∧ a = c) ∨ (x ≠ xc ∧ cl.lookup x = some a) := by
  rw [List.lookup_cons] at h
  cases hx : x == xc with
  | true => rw [hx] at h; exact .inl ⟨by simpa using hx, (Option.some.inj h).symm⟩
  | false => rw [hx] at h; exact .inr ⟨by simpa using hx, h⟩
theorem comp_ok1 (o : CapOk1 X sc N' cap xc) (I : Inv X pins σ H s) (hC : s.heap.objs.size ≤ C) (hc : s.heap.objs.size ≤ c) (hf : ∀ b ∈ fp, FpOk X pins H b) (hb : ∀ b ∈ fp, b < s.heap.objs.size) : (compCx1 X sc N' xc C c s H fp).Ok := by
  have ltc : ∀ x a, (clOf X.env.cells sc.names []).lookup x = some a → X.env.cells.lookup x = some a := fun x a e => lookup_clOf (o.cells I.ok) (fun z => by simp at z) e
  have nc : ∀ x a, (clOf X.env.cells sc.names []).lookup x = some a → a ≠ c := fun x a e z => by
    obtain ⟨v, ob, hob, _⟩ := I.cell x a (ltc x a e)
    exact absurd (Nat.lt_of_lt_of_le (Heap.lt_size hob) (z ▸ hc)) (Nat.lt_irrefl _)
  exact {
    mod := I.ok.mod
    kind := o.kind
    glob := I.ok.glob
    blt := I.ok.blt
    above := hC
    inj := fun x y a hx hy => by
      rcases look1 hx with ⟨rfl, rfl⟩ | ⟨n1, hx⟩ <;> rcases look1 hy with ⟨e2, e3⟩ | ⟨n2, hy⟩
      · exact e2.symm
      · exact absurd rfl (nc _ _ hy)
      · exact absurd e3 (nc _ _ hx)
      · exact I.ok.inj x y a (ltc x a hx) (ltc y a hy)
    has := fun x hx => by
      have hm : (x, NameKind.free) ∈ sc.names ∨ x = xc := by
        rcases hx with hx | hx
        · exact relabel_mem1 o.own hx (.inl rfl)
        · exact relabel_mem1 o.own hx (.inr rfl)
      by_cases e : x = xc
      · exact ⟨c, by show ((xc, c) :: _).lookup x = _; rw [List.lookup_cons, e]; simp⟩
      · obtain ⟨a, ha⟩ := clOf_has (cells := X.env.cells) (l := sc.names) (acc := []) (x := x) (.inl (hm.resolve_right e))
        refine ⟨a, ?_⟩
        show ((xc, c) :: _).lookup x = _
        rw [List.lookup_cons]
        have : (x == xc) = false := by simpa using e
        rw [this]
        exact ha
    cab := fun x a h e => by
      have hx : x = xc := by simpa [compCx1] using h
      rcases look1 e with ⟨_, rfl⟩ | ⟨n1, _⟩
      · exact hc
      · exact absurd hx n1
    hd := I.ok.hd
    frames := I.ok.frames
    stk := .inl rfl
    exf := fun b hb' => ⟨Nat.ne_of_lt (Nat.lt_of_lt_of_le (hb b hb') hC), fun x a e => by
      rcases look1 e with ⟨_, rfl⟩ | ⟨_, e⟩
      · exact Nat.ne_of_gt (Nat.lt_of_lt_of_le (hb b hb') hc)
      · exact (hf b hb').2.2.2.2.1 x a (ltc x a e)⟩
    bs := I.bs
    bsz := Nat.le_trans I.ok.bsz I.sz
    noex := fun b ob e hb' => by
      rcases (hf b hb').2.2.2.1 with z | z
      · exact I.ok.noex b ob e z
      · exact absurd (Nat.lt_of_lt_of_le (Heap.lt_size e) (Nat.le_trans I.ok.bsz z)) (Nat.lt_irrefl _)
    exfs := fun b hb' z => by
      obtain ⟨_, f1, f2, _⟩ := hf b hb'
      rcases List.mem_cons.mp (I.stkSub b z) with e | e
      · exact f1 e
      · exact f2 e
    funs := I.stack
    frf := I.stkFree }
theorem comp_inv1 (o : CapOk1 X sc N' cap xc) (I : Inv X pins σ H s) {D : Addr} {h1 : Heap} {t : Nat} (hD : D = s.heap.objs.size) (hC : C = s.heap.objs.size + 1) (hc : c = s.heap.objs.size + 2) (hf : ∀ b ∈ fp, FpOk X pins H b) (hb : ∀ b ∈ fp, b < s.heap.objs.size)
    (hn : h1.Ns C fun _ => none) (hcell : h1.IsCell c none) (hl : h1.get? D = some { cls := .type "list", data := .seq #[] 0 }) (k : ∀ b o, s.heap.get? b = some o → h1.get? b = some o) :
    Inv (compCx1 X sc N' xc C c s H fp) [] (capS cap σ) (upd H D (.lst [])) { s with heap := h1, toks := t } := by
  have hCs : s.heap.objs.size ≤ C := by rw [hC]; exact Nat.le_add_right _ _
  have hcs : s.heap.objs.size ≤ c := by rw [hc]; exact Nat.le_add_right _ _
  have hCD : C ≠ D := by rw [hC, hD]; exact Nat.succ_ne_self _
  have hcD : c ≠ D := by rw [hc, hD]; exact Nat.ne_of_gt (Nat.lt_add_of_pos_right (by decide))
  have ok := comp_ok1 (C := C) (c := c) (fp := fp) o I hCs hcs hf hb
  have hDn : H D = none := by rw [hD]; exact I.fresh
  have ltc : ∀ x a, (clOf X.env.cells sc.names []).lookup x = some a → X.env.cells.lookup x = some a := fun x a e => lookup_clOf (o.cells I.ok) (fun z => by simp at z) e
  have cel : ∀ a v, s.heap.IsCell a v → h1.IsCell a v := fun a v ⟨ob, ho, hd⟩ => ⟨ob, k a ob ho, hd⟩
  have ltD : ∀ a v, s.heap.IsCell a v → a ≠ D := fun a v ⟨ob, ho, hd⟩ => by rw [hD]; exact Nat.ne_of_lt (Heap.lt_size ho)
  refine ⟨ok, rfl, I.bare, Un.laid k (by rw [hD]; exact Nat.le_refl _) hDn, ⟨_, hn, fun i x v e1 e2 e3 => ?_⟩, fun x a e => ?_, ?_, fun x a e => ?_, fun p hp => absurd hp (by simp [compCx1]), ?_, ?_⟩
  · have e2' : cap[i]?.map (fun o => o.bind fun j => (σ[j]?).join) = some (some v) := by
      have := e2
      unfold capS at this
      rw [List.getElem?_map] at this
      exact this
    cases hcp : cap[i]? with
    | none => rw [hcp] at e2'; cases e2'
    | some oo =>
      rw [hcp] at e2'
      cases oo with
      | none => cases e2'
      | some j =>
        have e4 : (σ[j]?).join = some v := by simpa using e2'
        obtain ⟨q0, q1, q2', q3⟩ := o.slots i j x e1 hcp
        have q2 : (x, NameKind.free) ∈ sc.names := (q2'.elim (fun z => relabel_mem1 o.own z (.inl rfl)) fun z => relabel_mem1 o.own z (.inr rfl)).resolve_right q0
        obtain ⟨m, hm, hl'⟩ := I.loc
        have e5 : σ[j]? = some (some v) := by
          cases z : σ[j]? with
          | none => rw [z] at e4; cases e4
          | some y => rw [z] at e4; cases y with
            | none => cases e4
            | some y' => cases e4; rfl
        obtain ⟨u, r, l⟩ := hl' j x v q1 e5 q3
        refine ⟨u, r, ?_⟩
        obtain ⟨a, ha⟩ := clOf_has (cells := X.env.cells) (l := sc.names) (acc := []) (x := x) (.inl q2)
        have kd : X.env.kindOf x = some .cell ∨ X.env.kindOf x = some .free := o.free x q2
        rcases l with ⟨hk, _⟩ | ⟨hk, a', ha', hcl⟩
        · rcases kd with z | z <;> rw [z] at hk <;> cases hk
        · have e6 : a' = a := by
            have := ltc x a ha
            rw [ha'] at this
            exact Option.some.inj this
          refine .inr ⟨q2', a, ?_, ?_⟩
          · show ((xc, c) :: _).lookup x = _
            rw [List.lookup_cons]
            have : (x == xc) = false := by simpa using q0
            rw [this]
            exact ha
          · rw [← e6]
            exact cel _ _ hcl
  · rcases look1 e with ⟨_, rfl⟩ | ⟨_, e⟩
    · exact ⟨none, hcell⟩
    · obtain ⟨v, z⟩ := I.cell x a (ltc x a e)
      exact ⟨v, cel a v z⟩
  · show upd H D (.lst []) C = none
    rw [upd_ne hCD]
    exact I.hok.fresh hCs
  · show upd H D (.lst []) a = none
    rcases look1 e with ⟨_, rfl⟩ | ⟨_, e⟩
    · rw [upd_ne hcD]
      exact I.hok.fresh hcs
    · obtain ⟨v, z⟩ := I.cell x a (ltc x a e)
      rw [upd_ne (ltD a v z)]
      exact I.freeC x a (ltc x a e)
  · exact I.hok.laid k (by rw [hD]; exact Nat.le_refl _) ⟨Nat.zero_le _, [], 0, .nil, hl⟩
  · show (capS cap σ).length = N'.length
    unfold capS
    rw [List.length_map, o.len]
end
theorem newEnv_cell {M : Model} {A : Around} {E : Value → Shared → Prop} {s : Shared} {sc : Scope} {globals : Addr} {cl : List (Str × Addr)} {qual : Str} {env0 : Env} {xc : Str} {Q : Env → Shared → Prop}
    (one : ∀ n cl, cellsFrom n sc.names cl = (xc, n) :: cl) (push : ∀ h, pushCells h sc.names = h.push { cls := .type "cell", data := .cell none })
    (hQ : ∀ h', h'.Ns s.heap.objs.size (fun _ => none) → h'.IsCell (s.heap.objs.size + 1) none → (∀ b o, s.heap.get? b = some o → h'.get? b = some o) →
      Q { scope := sc, locals := s.heap.objs.size, globals := globals, cells := (xc, s.heap.objs.size + 1) :: cl, qual := qual, func := none, code := env0.code, frame := env0.frame, builtins := env0.builtins } { s with heap := h' }) :
    wpAny M A (newFunctionEnv sc globals cl [] qual none .none (some env0)) Q E s := by
  unfold newFunctionEnv
  simp only [Option.isSome_some, if_true]
  refine wpAny_bind (wpAny_alloc ?_)
  refine wpAny_bind (wpAny_layCells _ (fun name kind cells => by cases hkc : kind == NameKind.cell <;> simp [hkc]) _ _ _ _ ?_)
  have hsz : ({ s with heap := s.heap.push { cls := .type "dict", data := .dict #[] } } : Shared).heap.objs.size = s.heap.objs.size + 1 := Heap.size_push ..
  rw [hsz, one, push]
  simp only [List.forIn_nil]
  refine wpAny_bind (wpAny_pure (wpAny_pure (hQ _ ?_ ?_ fun b o e => Heap.get?_push_of_some _ (Heap.get?_push_of_some _ e))))
  · exact (Heap.Ns.new s.heap (.type "dict")).keeps fun b o e => Heap.get?_push_of_some _ e
  · refine ⟨{ cls := .type "cell", data := .cell none }, ?_, rfl⟩
    have := Heap.get?_push_size (h := s.heap.push { cls := .type "dict", data := .dict #[] }) (o := { cls := .type "cell", data := .cell none }) rfl
    rw [Heap.size_push] at this
    exact this
section
variable {X : Cx} {sc : Scope} {N' : List Str} {cap : List (Option Nat)} {xc : Str} {tg elt iter : Expr} {ifs : List Expr} {pos : Pos} {g : TG} {tc : TT} {te : TE}
theorem comp_block1 {pins : List (Addr × Obj)} {σ : St} {H : Hp} {s : Shared} {J : It} {fp : List Addr} {it : Addr} {tn : Nat → Heap → Prop} {RR : Value → Addr → Result → Shared → Prop} {Q : Addr → Hp → Prop} {E : Value → Shared → Prop}
    (o : CapOk1 X sc N' cap xc) (hcm : X.calm = true) (hg : ∀ C c s₀ H₀ fp, PG (compCx1 X sc N' xc C c s₀ H₀ fp) tg g) (ht : ∀ C c s₀ H₀ fp, PTs (compCx1 X sc N' xc C c s₀ H₀ fp) ifs tc) (he : ∀ C c s₀ H₀ fp, PE (compCx1 X sc N' xc C c s₀ H₀ fp) elt te)
    (I : Inv X pins σ H s) (T : Turn X.prog X.w X.K tg J fp it tn) (st : tn 0 s.heap) (hf : ∀ b ∈ fp, FpOk X pins H b)
    (h : ∀ D, H D = none → RunC J g tc te D (Q D) (capS cap σ) (upd H D (.lst [])))
    (hR : ∀ D C s' H' m', H D = none → s.heap.objs.size ≤ C → s'.os = s.os → AllBare s'.gens → Un (frs X.stack) fp H H' s.heap s'.heap → HOk X.prog X.w H' s'.heap → s'.heap.Ns C m' → H' C = none → C ∉ fp → Q D H' → RR (.ref D) C (.ok .next) s') :
    wpAny (model X.prog X.w) X.A (newList []) (fun acc s₃ => wpAny (model X.prog X.w) X.A (newFunctionEnv sc X.env.globals (clOf X.env.cells sc.names []) [] X.env.qual none .none (some X.env)) (fun cenv s₄ =>
      codeAny (model X.prog X.w) X.A (.compStart (.ListComp elt [⟨tg, iter, ifs, 0⟩] sc pos) 0 (.ref it) acc { cenv with scope := relabel sc X.env }) (RR acc cenv.locals) s₄) E s₃) E s := by
  have hb : ∀ b ∈ fp, b < s.heap.objs.size := fun b hb => by
    obtain ⟨ob, e, _⟩ := T.obj _ _ st b hb
    exact Heap.lt_size e
  refine wpAny_newObj_type (newEnv_cell o.one o.push (fun h₁ hns₁ hcell₁ hk₁ => ?_))
  dsimp only at hns₁ hcell₁ hk₁ ⊢
  generalize hH2 : s.heap.push { cls := .type "list", dict := none, data := .seq ([] : List Value).toArray } = H2 at hns₁ hcell₁ hk₁ ⊢
  have hC : H2.objs.size = s.heap.objs.size + 1 := by rw [← hH2, Heap.size_push]
  have hCl : s.heap.objs.size ≤ H2.objs.size := by rw [hC]; exact Nat.le_succ _
  have hcl : s.heap.objs.size ≤ H2.objs.size + 1 := Nat.le_succ_of_le hCl
  have old : ∀ b ob, s.heap.get? b = some ob → h₁.get? b = some ob := fun b ob e => hk₁ b ob (hH2 ▸ Heap.get?_push_of_some _ e)
  have hl : h₁.get? s.heap.objs.size = some { cls := .type "list", data := .seq #[] 0 } := hk₁ _ _ (hH2 ▸ Heap.get?_push_size _ rfl)
  have I4 : Inv (compCx1 X sc N' xc H2.objs.size (H2.objs.size + 1) s H fp) [] (capS cap σ) (upd H s.heap.objs.size (.lst [])) { s with heap := h₁ } := comp_inv1 (t := s.toks) o I rfl hC (by rw [hC]) hf hb hns₁ hcell₁ hl old
  have hfr : H s.heap.objs.size = none := I.fresh
  have f4 : ∀ b ∈ fp, FpOk (compCx1 X sc N' xc H2.objs.size (H2.objs.size + 1) s H fp) [] (upd H s.heap.objs.size (.lst [])) b := fun b hb' => by
    obtain ⟨f0, f1, f2, f3, f4, f5⟩ := hf b hb'
    have lb := hb b hb'
    refine ⟨by rw [upd_ne (Nat.ne_of_lt lb)]; exact f0, (Nat.ne_of_lt (Nat.lt_of_lt_of_le lb hCl) : b ≠ H2.objs.size), fun z => ?_, .inl hb', fun x a e => ?_, fun p hp => absurd hp (by simp [compCx1])⟩
    · rcases List.mem_cons.mp (I.stkSub b z) with e | e
      · exact f1 e
      · exact f2 e
    · rcases look1 e with ⟨_, rfl⟩ | ⟨_, e⟩
      · exact Nat.ne_of_gt (Nat.lt_of_lt_of_le lb hcl)
      · exact f4 x a (lookup_clOf (o.cells I.ok) (fun z => by simp at z) e)
  have st4 : tn 0 h₁ := T.keep _ _ _ st fun b _ ob e => old b ob e
  have loop : ∀ s₅ : Shared, s₅ = { s with heap := h₁ } →
      codeAny (model X.prog X.w) X.A (.compLoop (.ListComp elt [⟨tg, iter, ifs, 0⟩] sc pos) 0 (.ref it) (.ref s.heap.objs.size) (compCx1 X sc N' xc H2.objs.size (H2.objs.size + 1) s H fp).env) (RR (.ref s.heap.objs.size) H2.objs.size) s₅ := by
    rintro s₅ rfl
    refine comp_loop (Y := compCx1 X sc N' xc H2.objs.size (H2.objs.size + 1) s H fp) (J := J) (fp := fp) (tn := tn) (Q := Q s.heap.objs.size) rfl hcm (hg _ _ _ _ _) (ht _ _ _ _ _) (he _ _ _ _ _) T st4 f4 I4 (h _ hfr) fun τ' H' s' I' q' => ?_
    obtain ⟨m', hn', _⟩ := I'.loc
    exact hR _ _ s' H' m' hfr hCl I'.os I'.bare I'.base I'.hok hn' I'.free (fun z => absurd (Nat.lt_of_lt_of_le (hb _ z) hCl) (Nat.lt_irrefl _)) q'
  exact codeAny_compStart_list (loop _ rfl) (T.self _ 0 _ _ _ st4 (loop _ rfl))
theorem pe_comp1 {wi : TI} (hcm : X.calm = true) (hcap : capB1 X.env.scope X.N sc N' cap xc = true) (one : ∀ n cl, cellsFrom n sc.names cl = (xc, n) :: cl) (push : ∀ h, pushCells h sc.names = h.push { cls := .type "cell", data := .cell none })
    (hi : PI X tg iter wi) (hg : ∀ C c s₀ H₀ fp, PG (compCx1 X sc N' xc C c s₀ H₀ fp) tg g) (ht : ∀ C c s₀ H₀ fp, PTs (compCx1 X sc N' xc C c s₀ H₀ fp) ifs tc)
    (he : ∀ C c s₀ H₀ fp, PE (compCx1 X sc N' xc C c s₀ H₀ fp) elt te) (hs : ∀ x, foldedSetIterable iter X.env x = pure x := by intro _; rfl) : PE X (.ListComp elt [⟨tg, iter, ifs, 0⟩] sc pos) (tComp wi cap g tc te) := by
  intro pins s σ H Q I h
  have o : CapOk1 X sc N' cap xc := capB1_ok hcap one push
  rw [eval_ListComp]
  refine wpAny_comprehension_free (use := none) rfl hs (closure_ok (o.cells I.ok)) o.kind o.locals (thn (hi pins s σ H _ I h) fun v s1 h1 => thn h1 fun itv s2 h2 => ?_)
  obtain ⟨it, fp, tn, J, H2, e, I2, T, st2, f2, hW⟩ := h2
  subst e
  refine comp_block1 (RR := fun acc C => compPost (model X.prog X.w) X.A X.xe none (EP X pins σ Q) acc C) (Q := fun D H' => Q (.ref D) H') o hcm hg ht he I2 T st2 f2 hW ?_
  intro D C s' H' m' hD hC hos hbare hun hok hn hHC hCf q
  refine ⟨m', hn, fun h' hsb => ?_⟩
  have I3 : Inv X pins σ H' s' := I2.call' hos hun hok hbare (Inv.fpCh f2)
  have f3 : FpOk X pins H' C := I2.fpOk hC hHC
  obtain ⟨_, k1, _, k3, k4, k5⟩ := f3
  have I4 : Inv X pins σ H' { s' with heap := h' } := I3.turned (t' := s'.toks) (fun b ob hb e => (hsb.2 b hb).trans e) hHC k1 k3 k4 k5
  exact ⟨.ref D, H', I4, rfl, q⟩
end
end L2

set_option Elab.async false
set_option linter.all false
set_option maxRecDepth 100000
set_option maxHeartbeats 4000000

namespace L2
open PySem PySem.Spec PyProof.Rows

theorem ObjOk.ob {P : Program} {w : World} {H : Hp} {h : Heap} {a : Addr} {o : HO} (x : ObjOk P w H h a o) : ∃ u, h.get? a = some u := by
  cases o with
  | lst xs => obtain ⟨_, _, _, _, e⟩ := x; exact ⟨_, e⟩
  | tup xs => obtain ⟨_, _, _, ob, e, _⟩ := x; exact ⟨_, e⟩
  | dK kvs => obtain ⟨_, _, _, _, ob, _, _, e, _⟩ := x; exact ⟨_, e⟩
  | dT kvs => obtain ⟨_, _, _, _, ob, _, _, e, _⟩ := x; exact ⟨_, e⟩
  | set S n => obtain ⟨ob, _, _, _, e, _⟩ := x; exact ⟨_, e⟩
  | ins C dx fs => obtain ⟨_, _, _, e, _⟩ := x; exact ⟨_, e⟩
  | own y => exact x
  | xd fs => obtain ⟨_, ⟨ob, _, _, e, _⟩, _⟩ := x; exact ⟨_, e⟩
  | rng lo hi => obtain ⟨_, _, _, e⟩ := x; exact ⟨_, e⟩
  | frz ob u => obtain ⟨e, _⟩ := x; exact ⟨_, e⟩
  | tbl ps => exact ⟨_, (show h.get? a = some _ from x)⟩
  | met f y => exact ⟨_, (show h.get? a = some _ from x)⟩
  | ext φ => obtain ⟨_, e, _⟩ := x; exact e


structure XUn (fs : List Addr) (H H' : Hp) (h B h' : Heap) : Prop where
  kp : ∀ b o, h.get? b = some o → H b = none → b ∉ fs → B.get? b = some o
  sl : ∀ b o, h.get? b = some o → H b = none → b ∈ fs → ∃ z, h'.get? b = some { o with slots := z }
  fr : ∀ b o, h.get? b = some o → H b = none → H' b = none
  th : ∀ b o, h.get? b = some o → b ∉ fs → ∃ z, B.get? b = some z
  tu : ∀ b xs, H b = some (.tup xs) → H' b = some (.tup xs)
  fz : ∀ b o u, H b = some (.frz o u) → H' b = some (.frz o u)
  tb : ∀ b ps, H b = some (.tbl ps) → ∃ more, H' b = some (.tbl (ps ++ more))
section
variable {fs : List Addr} {H H' : Hp} {h B h' h2 : Heap}
theorem XUn.un (x : XUn fs H H' h B h') (hB : B.StaysIn h2) (hf : ∀ b ∈ fs, H b = none) (hs : ∀ b o, h'.get? b = some o → b ∈ fs → ∃ z, h2.get? b = some { o with slots := z }) : Un fs [] H H' h h2 where
  keep := fun b o e n hb _ => hB b o (x.kp b o e n hb)
  slot := fun b o e n hb _ => by
    obtain ⟨z, e1⟩ := x.sl b o e n hb
    obtain ⟨z', e2⟩ := hs b _ e1 hb
    exact ⟨z', e2⟩
  free := fun b o e n _ => x.fr b o e n
  there := fun b o e _ => by
    by_cases hb : b ∈ fs
    · obtain ⟨z, e1⟩ := x.sl b o e (hf b hb) hb
      obtain ⟨z', e2⟩ := hs b _ e1 hb
      exact ⟨_, e2⟩
    · obtain ⟨z, e1⟩ := x.th b o e hb
      exact ⟨z, hB b z e1⟩
  tups := x.tu
  frzs := x.fz
  tbls := x.tb
theorem frames_up {l : List Env} (ff : h'.FunFrames B l) (up : h'.UpToSlots h2) : ∀ b o, h'.get? b = some o → b ∈ frs l → ∃ z, h2.get? b = some { o with slots := z } := fun b o e hb => by
  obtain ⟨_, o', e', hd⟩ := ff.mem hb
  rw [e] at e'
  cases e'
  exact up b o e hd
theorem XUn.next {l : List Env} (x : XUn (frs l) H H' h B h') (ff : h'.FunFrames B l) (up : h'.UpToSlots h2) : XUn (frs l) H H' h B h2 :=
  ⟨x.kp, fun b o e n hb => by
    obtain ⟨z, e1⟩ := x.sl b o e n hb
    obtain ⟨z', e2⟩ := frames_up ff up b _ e1 hb
    exact ⟨z', e2⟩, x.fr, x.th, x.tu, x.fz, x.tb⟩
end


def CX1 (P : Program) (w : World) : CXT := fun outer H s E u s' => ∃ (e : Addr) (cls a0 : Value) (B : Heap) (H' : Hp), u = .ref e ∧ s'.os = s.os ∧ AllBare s'.gens ∧ XUn (frs outer) H H' s.heap B s'.heap ∧ HOk P w H' B ∧ Heap.FlyingW B outer e cls a0 s'.heap ∧ E cls none H'

def FlyAt (X : Cx) (pins : List (Addr × Obj)) (e : Addr) (cls a0 : Value) (σ : St) (H' : Hp) (s' : Shared) : Prop :=
  ∃ (B : Heap) (H : Hp) (s : Shared), Inv X pins σ H s ∧ s'.os = s.os ∧ AllBare s'.gens ∧ XUn (frs X.stack) H H' s.heap B s'.heap ∧ HOk X.prog X.w H' B ∧ Heap.FlyingW B X.stack e cls a0 s'.heap

abbrev XJ := Value → St → Hp → Prop
def Fly (X : Cx) (J : XJ) (u : Value) (s' : Shared) : Prop := ∃ (e : Addr) (cls a0 : Value) (σ : St) (H' : Hp), u = .ref e ∧ FlyAt X [] e cls a0 σ H' s' ∧ J cls σ H'
def Flies (X : Cx) (J : XJ) : Prop := ∀ u s', Fly X J u s' → X.xe u s'
def Makes (X : Cx) (J : XJ) : Prop := ∀ (pins : List (Addr × Obj)) (σ : St) (H : Hp) (s : Shared) (e : Addr) (cls : Value) (vs : List Value) (h' : Heap), Inv X pins σ H s → Heap.MadeExcOf s.heap h' e cls vs → J cls σ H → X.xe (.ref e) { s with heap := h' }


def excO (e : Addr) (cls : Value) : HO := .ext fun h => ∃ o vs, h.get? e = some o ∧ o.cls = cls ∧ o.data = .fields vs

section
variable {X : Cx} {pins : List (Addr × Obj)} {σ : St} {H H' : Hp} {s s' : Shared} {e : Addr} {cls a0 : Value}
theorem FlyAt.step {B : Heap} {h2 : Heap} {S : Shared} (I : Inv X pins σ H S) (q1 : s'.os = S.os) (q2 : AllBare s'.gens) (q3 : XUn (frs X.stack) H H' S.heap B s'.heap) (q4 : HOk X.prog X.w H' B) (q5 : Heap.FlyingW B X.stack e cls a0 s'.heap)
    (f : Heap.FlyingW B X.stack e cls a0 h2) (up : s'.heap.UpToSlots h2) : FlyAt X pins e cls a0 σ H' { s' with heap := h2 } :=
  ⟨B, H, S, I, q1, q2, q3.next q5.2.2.1 up, q4, f⟩

theorem FlyAt.apart {B : Heap} {S : Shared} (q3 : XUn (frs X.stack) H H' S.heap B s'.heap) (q5 : Heap.FlyingW B X.stack e cls a0 s'.heap) : S.heap.get? e = none := by
  cases z : S.heap.get? e with
  | none => rfl
  | some o =>
    by_cases hb : e ∈ frs X.stack
    · obtain ⟨_, o', e1, hd⟩ := q5.2.2.1.mem hb
      obtain ⟨oe, vs, e2, _, d2, _⟩ := q5.first
      rw [e1] at e2
      cases e2
      exact absurd d2 (hd vs)
    · obtain ⟨o', e1⟩ := q3.th e o z hb
      have e2 := q5.2.1
      rw [e1] at e2
      cases e2
end


section
variable {P : Program} {w : World} {K : PySem.W.Frag} {mg : Str → Option Value} {base : Heap} {N : List Str} {qual : Str} {scope : Scope} {f : Addr} {cd : Value} {A : Around} {outer : List Env} {s : Shared} {H : Hp} {E : XK}
end
structure HasX (P : Program) (w : World) (K : PySem.W.Frag) (mg : Str → Option Value) (base : Heap) (x : Str) (ps : List Str) (k : Nat) (sp : Sp) : Prop where
  ex : ∃ (f : Addr) (fd : FuncData), mg x = some (.ref f) ∧ PySem.W.keepIn K (.ref f) = true ∧ Binds K fd ps [] ∧ FnOk P w K mg base (CX1 P w) k f fd ps sp

def tCallX (sp : Sp) (J : XJ) (t : TA) : TE := fun σ H Q => t σ H fun vs H1 => sp vs H1 Q (fun cls _ H2 => J cls σ H2)
section
variable {X : Cx} {J : XJ} {x : Str} {ps : List Str} {j k : Nat} {sp : Sp} {p pos : Pos} {e : Expr} {es : List Expr} {t : TA}
end


abbrev bmV : List Value := [.type "ValueError", .type "Exception", .type "BaseException", .type "object"]
def tRaise (J : XJ) (C : Addr) (t : TA) : TS := fun _ σ H => t σ H fun vs H1 => vs.length ≤ sizeLine ∧ J (.ref C) σ H1
theorem PS.nox {X : Cx} {st : Stmt} {t : TS} (h : PS X.nox st t) : PS X st t := fun pins s σ H D I hw =>
  wpAny_mono (h pins s σ H D (I.wish _) hw) (fun _ _ q => q.unwish) fun _ _ z => False.elim z
end L2

set_option Elab.async false
set_option linter.all false
set_option maxRecDepth 100000
set_option maxHeartbeats 4000000

namespace L2
open PySem PySem.Spec PyProof.Rows PySem.W

section
variable {X : Cx} {pins pn : List (Addr × Obj)} {σ : St} {H : Hp} {s : Shared} {J : XJ}
abbrev Cx.pinned (X : Cx) (pn : List (Addr × Obj)) : Cx := { X with pn := X.pn ++ pn }
theorem Cx.Ok.pinned (ok : X.Ok) (pn : List (Addr × Obj)) : (X.pinned pn).Ok :=
  ⟨ok.mod, ok.kind, ok.glob, ok.blt, ok.above, ok.inj, ok.has, ok.cab, ok.hd, ok.frames, ok.stk, ok.exf, ok.bs, ok.bsz, ok.noex, ok.exfs, ok.funs, ok.frf⟩
abbrev Cx.tried (X : Cx) (pn : List (Addr × Obj)) (J : XJ) : Cx := (X.pinned pn).wish (Fly (X.pinned pn) J)
abbrev Cx.suite (X : Cx) (e : Addr) : Cx := { X with A := X.A.mark (some (.ref e)), calm := false, xe := fun _ _ => False }
theorem Cx.Ok.suite (ok : X.Ok) (e : Addr) : (X.suite e).Ok :=
  ⟨ok.mod, ok.kind, ok.glob, ok.blt, ok.above, ok.inj, ok.has, ok.cab, fun z => Bool.noConfusion z, ok.frames, ok.stk, ok.exf, ok.bs, ok.bsz, ok.noex, ok.exfs, ok.funs, ok.frf⟩
theorem Inv.suite (I : Inv X pins σ H s) (e : Addr) : Inv (X.suite e) pins σ H s := ⟨I.ok.suite e, I.os, I.bare, I.base, I.loc, I.cell, I.free, I.freeC, I.pin, I.hok, I.len⟩
end


def PH (X : Cx) (hs : List ExceptHandler) (th : Ends → XJ) : Prop := ∀ (pins : List (Addr × Obj)) (s : Shared) (σ : St) (H : Hp) (D : Ends) (e : Addr) (cls a0 : Value), FlyAt X pins e cls a0 σ H s → th D cls σ H →
  wpAny (model X.prog X.w) X.A (handleBy (.ref e) X.env hs) (SP X pins D) X.xe s
def hNo : Ends → XJ := fun _ _ _ _ => False
def behind (i : Nat) (D : Ends) : Ends := { nx := fun σ H => D.nx (σ.set i none) H, rt := D.rt, bk := fun σ H => D.bk (σ.set i none) H, ct := fun σ H => D.ct (σ.set i none) H }
def hAs (K : Frag) (C : Addr) (i : Nat) (ts : TS) (th : Ends → XJ) : Ends → XJ := fun D cls σ H => ∃ (C' : Addr) (b : Bool), cls = .ref C' ∧ subIn K (.ref C') (.ref C) = some b ∧
  if b = true then ∀ e, H e = none → ts (behind i D) (σ.set i (some (.ref e))) (upd H e (excO e cls)) else th D cls σ H

section
variable {X : Cx} {th : Ends → XJ}
def tTry (tb : XJ → TS) (th : Ends → XJ) : TS := fun D σ H => tb (th D) D σ H
end


structure ExcC (K : Frag) (C : Addr) : Prop where
  cls : ktsIn K C "BaseException" = true
  ga : findIn K (.ref C) "__getattribute__" = some (some (.builtin "BaseException.__getattribute__"))
  gt : findIn K (.ref C) "__getattr__" = some none
  cl : findIn K (.ref C) "__class__" = some (some (.builtin "object.__class__"))
  ob : subIn K (.ref C) (.type "object") = some true
  be : subIn K (.ref C) (.type "BaseException") = some true
section
variable {prog : Program} {w : World} {A : Around} {E : Value → Shared → Prop} {h : Heap} {g : Array GenState} {d : Drawn} {t : Nat} {os : OsState} {a C : Addr} {o : Obj} {K : Frag}
end
section
variable {X : Cx} {K : Frag}

end
end L2

set_option Elab.async false
set_option linter.all false
set_option maxRecDepth 100000
set_option maxHeartbeats 4000000

namespace L2
open PySem PySem.Spec PyProof.Rows

def Ite (K : PySem.W.Frag) (a : Addr) : It :=
  ⟨fun i H => ∃ xs x, SqL K H a xs ∧ xs[i]? = some x, fun i H x H' => ∃ p v, H p = none ∧ x = .ref p ∧ H' = upd H p (.tup [.int i, v]) ∧ ∀ xs, SqL K H a xs → xs[i]? = some v, fun i H => ∃ xs, SqL K H a xs ∧ xs.length ≤ i⟩
def iEnum (K : PySem.W.Frag) (ta : TA) : TI := fun σ H R => ta σ H fun vs H1 => ∃ a, vs = [.ref a] ∧ (∃ xs, SqL K H1 a xs) ∧ R (Ite K a) H1
section
variable {g : TG} {tc : TT} {te : TE} {D : Addr} {Q : Hp → Prop} {τ : St} {H : Hp}
end
end L2

set_option Elab.async false
set_option linter.all false
set_option maxRecDepth 100000
set_option maxHeartbeats 4000000

namespace L2
open PySem PySem.Spec PyProof.Rows

theorem Inv.turnedN {X : Cx} {pins : List (Addr × Obj)} {σ : St} {H : Hp} {s : Shared} {h' : Heap} {t' : Nat} {fp : List Addr} (I : Inv X pins σ H s) (k : ∀ b o, b ∉ fp → s.heap.get? b = some o → h'.get? b = some o) (hf : ∀ b ∈ fp, FpOk X pins H b) :
    Inv X pins σ H { s with heap := h', toks := t' } := by
  have ntr : ∀ c o, H c = some o → c ∉ fp := fun c o e hm => by rw [(hf c hm).1] at e; cases e
  refine I.step (g' := s.gens) (d' := s.drawn) (ch := fp) (fun b hb => ?_) (fun b o _ _ hc e _ => k b o hc e) (fun b o _ _ hc e _ => ⟨o.slots, k b o hc e⟩) (fun _ _ _ _ n => n)
    (fun b o hc e => ⟨o, k b o hc e⟩) (fun _ _ e => e) (fun _ _ _ e => e) (fun b ps e => ⟨#[], by rw [e]; simp⟩) (fun m hm => ?_) (fun b u e => ?_) I.bare
  · have f := hf b hb
    exact ⟨f.2.2.2.1, f.2.1, f.2.2.2.2.1, f.2.2.2.2.2⟩
  · obtain ⟨o, es', ep, ho, r⟩ := hm
    exact ⟨o, es', ep, k _ o (fun z => (hf _ z).2.1 rfl) ho, r⟩
  · refine (I.hok b u e).stay (fun c y hc' q => ?_) (fun c q => q) fun c ys q => q
    rcases hc' with rfl | hc'
    · exact k _ _ (ntr _ _ e) q
    · exact k _ _ (ntr _ _ hc') q

def Itz (K : PySem.W.Frag) (a b : Addr) : It :=
  ⟨fun i H => ∃ xs ys x y, SqL K H a xs ∧ SqL K H b ys ∧ xs[i]? = some x ∧ ys[i]? = some y,
   fun i H v H' => ∃ p x y, H p = none ∧ v = .ref p ∧ H' = upd H p (.tup [x, y]) ∧ (∀ xs, SqL K H a xs → xs[i]? = some x) ∧ ∀ ys, SqL K H b ys → ys[i]? = some y,
   fun i H => ∃ xs ys, SqL K H a xs ∧ SqL K H b ys ∧ (xs.length ≤ i ∨ ys.length ≤ i)⟩
theorem turn_zip {P : Program} {w : World} {K : PySem.W.Frag} {es : List Expr} {x1 : Nat} {tpos : Pos} (a b z TI TO i1 i2 : Addr) (D : ZipApart z TI TO i1 i2 a b) :
    Turn P w K (.Tuple es x1 tpos) (Itz K a b) [z, TI, TO, i1, i2] z (fun i h => IsZip h z TI TO .none ∧ IsPair h TI (.ref i1) (.ref i2) ∧ (∃ c d, IsPair h TO c d) ∧ h.IsListIter i1 a i ∧ h.IsListIter i2 b i) where
  mem := by simp
  obj := fun i h st c hc => by
    obtain ⟨hz, hTI, ⟨u, v, hTO⟩, ⟨o1, h1, c1, d1⟩, ⟨o2, h2, c2, d2⟩⟩ := st
    simp only [List.mem_cons, List.not_mem_nil, or_false] at hc
    rcases hc with rfl | rfl | rfl | rfl | rfl
    · exact ⟨_, hz, fun v q => by cases (show Data.fields _ = Data.cell v from q)⟩
    · exact ⟨_, hTI, fun v q => by cases (show Data.seq _ _ = Data.cell v from q)⟩
    · exact ⟨_, hTO, fun v q => by cases (show Data.seq _ _ = Data.cell v from q)⟩
    · exact ⟨o1, h1, fun v q => by rw [d1] at q; cases q⟩
    · exact ⟨o2, h2, fun v q => by rw [d2] at q; cases q⟩
  keep := fun i h h' st k => by
    obtain ⟨hz, hTI, ⟨u, v, hTO⟩, h1, h2⟩ := st
    exact ⟨k z (by simp) _ hz, k TI (by simp) _ hTI, ⟨u, v, k TO (by simp) _ hTO⟩, h1.at fun o q => k i1 (by simp) o q, h2.at fun o q => k i2 (by simp) o q⟩
  item := by
    intro X hP hw hK hc i pins s σ H E I hf st hg
    subst hP hw hK
    obtain ⟨hz, hTI, ⟨u0, v0, hTO⟩, h1, h2⟩ := st
    obtain ⟨xs, ys, x, y, hqa, hqb, hx, hy⟩ := hg
    obtain ⟨ia, ra, pa, _⟩ := I.list hqa
    obtain ⟨ib, rb, pb, _⟩ := I.list hqb
    obtain ⟨u, hu, ru⟩ := ra.get hx
    obtain ⟨v, hv, rv⟩ := rb.get hy
    have hfresh : H s.heap.objs.size = none := I.hok.fresh (Nat.le_refl _)
    have ltz := Heap.lt_size hz
    refine wpAny_pyNext_zip_item D hz hTI hTO h1 h2 pa.isList pb.isList (x := u) (y := v) (by simpa using hu) (by simpa using hv) fun h' hz' hTO' h1' h2' htup hsz hk => ?_
    refine ⟨_, rfl, wpAny_letOwnedTupleGo_zip hz' fun h3 hz3 hsb => ?_⟩
    replace hsb : Heap.SameBut z h' h3 := hsb
    have kk : ∀ c o, c ∉ [z, TI, TO, i1, i2] → s.heap.get? c = some o → h3.get? c = some o := fun c o hc e => by
      simp only [List.mem_cons, List.not_mem_nil, or_false, not_or] at hc
      obtain ⟨n1, n2, n3, n4, n5⟩ := hc
      exact (hsb.2 c n1).trans (hk c o n1 n3 n4 n5 e)
    have ht3 : h3.get? s.heap.objs.size = some { cls := .type "tuple", data := .seq #[u, v] } := (hsb.2 _ (Nat.ne_of_gt ltz)).trans htup
    have hi1 : h3.IsListIter i1 a (i + 1) := h1'.at fun o e => (hsb.2 i1 D.i1z).trans e
    have hi2 : h3.IsListIter i2 b (i + 1) := h2'.at fun o e => (hsb.2 i2 D.i2z).trans e
    have hTI3 : IsPair h3 TI (.ref i1) (.ref i2) := (hsb.2 TI D.TIz).trans (hk _ _ D.TIz D.TITO D.TIi1 D.TIi2 hTI)
    have hTO3 : IsPair h3 TO u v := (hsb.2 TO D.TOz).trans hTO'
    have ntr : ∀ c o, H c = some o → c ∉ [z, TI, TO, i1, i2] := fun c o e hm => by rw [(hf c hm).1] at e; cases e
    have nsz : ∀ c o, H c = some o → c ≠ s.heap.objs.size := fun c o e => ne_of_none e hfresh
    refine ⟨.ref s.heap.objs.size, upd H s.heap.objs.size (.tup [x, y]), ?_, rfl, ⟨s.heap.objs.size, x, y, hfresh, rfl, rfl, fun zs q => by rw [I.list_inj q hqa]; exact hx, fun zs q => by rw [I.list_inj q hqb]; exact hy⟩, ⟨hz3, hTI3, ⟨_, _, hTO3⟩, hi1, hi2⟩, fun c hc => ?_⟩
    · refine Inv.step (s := s) (h' := h3) (t' := s.toks) (H' := upd H s.heap.objs.size (.tup [x, y])) I (g' := s.gens) (d' := s.drawn) (ch := [z, TI, TO, i1, i2]) (fun c hc => ?_) (fun c o _ _ hc e _ => kk c o hc e) (fun c o _ _ hc e _ => ⟨o.slots, kk c o hc e⟩) (fun c o hc e n => ?_) (fun c o hc e => ⟨o, kk c o hc e⟩)
        (fun c zs e => by rw [upd_ne (nsz c _ e)]; exact e) (fun c o w' e => by rw [upd_ne (nsz c _ e)]; exact e) (fun c ps e => ⟨#[], by rw [upd_ne (nsz c _ e), e]; simp⟩) (fun m hm => ?_) (fun c w' e => ?_) I.bare
      · have f := hf c hc
        exact ⟨f.2.2.2.1, f.2.1, f.2.2.2.2.1, f.2.2.2.2.2⟩
      · rw [upd_ne (Nat.ne_of_lt (Heap.lt_size e))]
        exact n
      · obtain ⟨o, es', ep, ho, r⟩ := hm
        exact ⟨o, es', ep, kk _ o (fun q => (hf _ q).2.1 rfl) ho, r⟩
      · by_cases hcs : c = s.heap.objs.size
        · subst hcs
          rw [upd_same] at e
          cases e
          exact ⟨(by show (2 : Nat) ≤ sizeLine; decide), [u, v], .cons ru (.cons rv .nil), ⟨_, ht3, rfl, rfl, _, rfl⟩⟩
        · rw [upd_ne hcs] at e
          refine (I.hok c w' e).stay (fun c' y' hc' q => ?_) (fun c' q => by rw [upd_ne (nsz c' _ q)]; exact q) fun c' zs q => by rw [upd_ne (nsz c' _ q)]; exact q
          rcases hc' with rfl | hc'
          · exact kk _ _ (ntr _ _ e) q
          · exact kk _ _ (ntr _ _ hc') q
    · have lb : c < s.heap.objs.size := by
        simp only [List.mem_cons, List.not_mem_nil, or_false] at hc
        obtain ⟨o1, q1, _⟩ := h1
        obtain ⟨o2, q2, _⟩ := h2
        rcases hc with rfl | rfl | rfl | rfl | rfl
        · exact ltz
        · exact Heap.lt_size hTI
        · exact Heap.lt_size hTO
        · exact Heap.lt_size q1
        · exact Heap.lt_size q2
      rw [upd_ne (Nat.ne_of_lt lb)]
      exact (hf c hc).1
  done := by
    intro X hP hw hK hc i pins s σ H E I hf st hg
    subst hP hw hK
    obtain ⟨hz, hTI, ⟨u0, v0, hTO⟩, h1, h2⟩ := st
    obtain ⟨xs, ys, hqa, hqb, hx⟩ := hg
    obtain ⟨ia, ra, pa, _⟩ := I.list hqa
    obtain ⟨ib, rb, pb, _⟩ := I.list hqb
    have la := ra.length
    have lb := rb.length
    refine wpAny_pyNext_zip_end (I.ok.hd hc) D hz hTI hTO h1 h2 pa.isList pb.isList ?_ fun h' hk => ⟨rfl, I.turnedN (t' := s.toks) (fp := [z, TI, TO, i1, i2]) (fun c o hc e => ?_) hf⟩
    · rcases hx with q | q
      · exact .inl (by simp; omega)
      · exact .inr (by simp; omega)
    · simp only [List.mem_cons, List.not_mem_nil, or_false, not_or] at hc
      obtain ⟨n1, n2, n3, n4, n5⟩ := hc
      exact hk c o n1 n3 n4 n5 e
  self := fun _ _ _ _ _ st h => wpAny_pyIter_zip st.1 h

def iZip (K : PySem.W.Frag) (ta : TA) : TI := fun σ H R => ta σ H fun vs H1 => ∃ a b, vs = [.ref a, .ref b] ∧ (∃ xs, SqL K H1 a xs) ∧ (∃ ys, SqL K H1 b ys) ∧ R (Itz K a b) H1
theorem boot_zipT : bootBuiltins "zip" = some (.type "zip") := by decide +kernel
theorem pi_zip {X : Cx} {K : PySem.W.Frag} {es : List Expr} {x1 : Nat} {tpos : Pos} {a b : Expr} {ta : TA} {p pos : Pos} (hg : Gl X "zip") (hm : X.mg "zip" = none) (ha : PA X [a, b] ta) (hK : X.K = K := by rfl) (hs : starEach [a, b] X.env = [(false, eval a X.env), (false, eval b X.env)] := by rfl) (hs2 : starEach [b] X.env = [(false, eval b X.env)] := by rfl) :
    PI X (.Tuple es x1 tpos) (.Call (.Name "zip" p) [a, b] [] pos) (iZip K ta) := by
  subst hK
  intro pins s σ H R I h
  refine Call_ (ld_blt I hg hm boot_zipT (PyProof.Rows.callWith_type1 (thn (ha pos pins s σ H _ I h) fun us s1 ⟨vs, H1, I1, r1, q1⟩ => ?_) (by rw [hs, hs2]) (by rw [hs2]; rfl)))
  obtain ⟨la, lb, e, ⟨xs, hqa⟩, ⟨ys, hqb⟩, q⟩ := q1
  subst e
  cases r1 with
  | cons ra rr =>
    cases rr with
    | cons rb rr =>
      cases rr
      cases ra
      cases rb
      obtain ⟨ia, _, pa, _⟩ := I1.list hqa
      obtain ⟨ib, _, pb, _⟩ := I1.list hqb
      have a1 : la < s1.heap.objs.size := by obtain ⟨_, e, _⟩ := pa.isList; exact Heap.lt_size e
      have a2 : lb < s1.heap.objs.size := by obtain ⟨_, e, _⟩ := pb.isList; exact Heap.lt_size e
      refine call_zip_2 pa.isList pb.isList fun h' hz hTI hTO hi1 hi2 hsz hk => ?_
      refine wpAny_pyIter_zip hz ⟨s1.heap.objs.size + 4, [s1.heap.objs.size + 4, s1.heap.objs.size + 2, s1.heap.objs.size + 3, s1.heap.objs.size, s1.heap.objs.size + 1], _, _, H1, rfl, I1.kept (t' := s1.toks) hk, turn_zip la lb _ _ _ _ _ (zipApart_new a1 a2), ⟨hz, hTI, ⟨_, _, hTO⟩, hi1, hi2⟩, fun c hc => ?_, q⟩
      have lc : s1.heap.objs.size ≤ c := by
        simp only [List.mem_cons, List.not_mem_nil, or_false] at hc
        rcases hc with rfl | rfl | rfl | rfl | rfl
        · exact Nat.le_add_right _ _
        · exact Nat.le_add_right _ _
        · exact Nat.le_add_right _ _
        · exact Nat.le_refl _
        · exact Nat.le_add_right _ _
      exact I1.fpOk lc (I1.hok.fresh lc)
section
variable {g : TG} {tc : TT} {te : TE} {D : Addr} {Q : Hp → Prop} {τ : St} {H : Hp}
theorem comp_zip {K : PySem.W.Frag} {a b : Addr} {xs ys : List V} {n : Nat} (hn : n = min xs.length ys.length) (Pv : Nat → List V → St → Hp → Prop) (h0 : Pv 0 [] τ H) (hl : ∀ i zs τ H, i ≤ n → Pv i zs τ H → SqL K H a xs ∧ SqL K H b ys)
    (hs : ∀ i x y zs τ H p, xs[i]? = some x → ys[i]? = some y → Pv i zs τ H → H p = none → g (.ref p) τ (upd H p (.tup [x, y])) fun τ2 H2 => tc τ2 H2 fun b H3 => if b = true then te τ2 H3 fun y H4 => H4 D = some (.lst zs) ∧ zs.length < sizeLine ∧ Pv (i + 1) (zs ++ [y]) τ2 (upd H4 D (.lst (zs ++ [y]))) else Pv (i + 1) zs τ2 H3)
    (hd : ∀ zs τ H, Pv n zs τ H → Q H) : RunC (Itz K a b) g tc te D Q τ H := by
  refine ⟨fun i m zs τ H => m = n - i ∧ i ≤ n ∧ Pv i zs τ H, ⟨n, by simp, Nat.zero_le _, h0⟩, ?_⟩
  rintro i m zs τ H ⟨rfl, hi, pp⟩
  obtain ⟨qa, qb⟩ := hl i zs τ H hi pp
  by_cases hlt : i < n
  · refine .inr ⟨⟨xs, ys, xs[i], ys[i], qa, qb, by simp <;> omega, by simp <;> omega⟩, Pv (i + 1), fun ys' τ' H' p' => ⟨n - (i + 1), by omega, rfl, hlt, p'⟩, fun x H' y => ?_⟩
    obtain ⟨p, u, v, hp, rfl, rfl, y1, y2⟩ := y
    exact hs i u v zs τ _ p (y1 xs qa) (y2 ys qb) pp hp
  · have e : i = n := by omega
    subst e
    exact .inl ⟨⟨xs, ys, qa, qb, by omega⟩, hd zs τ H pp⟩
theorem for_zip {K : PySem.W.Frag} {a b : Addr} {xs ys : List V} {n : Nat} {g : TG} {tb : TS} {D : Ends} {σ : St} {H : Hp} (hn : n = min xs.length ys.length) (Pv : Nat → St → Hp → Prop) (h0 : Pv 0 σ H) (hl : ∀ i σ H, i ≤ n → Pv i σ H → SqL K H a xs ∧ SqL K H b ys)
    (hs : ∀ i x y σ H p, xs[i]? = some x → ys[i]? = some y → Pv i σ H → H p = none → g (.ref p) σ (upd H p (.tup [x, y])) fun σ2 H2 => tb { D with nx := Pv (i + 1), ct := Pv (i + 1), bk := D.nx } σ2 H2) (hd : ∀ σ H, Pv n σ H → D.nx σ H) :
    ∃ W : Nat → Nat → St → Hp → Prop, (∃ m, W 0 m σ H) ∧ ∀ i m σ H, W i m σ H →
      ((Itz K a b).stop i H ∧ D.nx σ H) ∨ ((Itz K a b).go i H ∧ ∃ N : St → Hp → Prop, (∀ σ' H', N σ' H' → ∃ m', m' < m ∧ W (i + 1) m' σ' H') ∧ ∀ x H', (Itz K a b).yld i H x H' → g x σ H' fun σ2 H2 => tb { D with nx := N, ct := N, bk := D.nx } σ2 H2) := by
  refine ⟨fun i m σ H => m = n - i ∧ i ≤ n ∧ Pv i σ H, ⟨n, by simp, Nat.zero_le _, h0⟩, ?_⟩
  rintro i m σ H ⟨rfl, hi, pp⟩
  obtain ⟨qa, qb⟩ := hl i σ H hi pp
  by_cases hlt : i < n
  · refine .inr ⟨⟨xs, ys, xs[i], ys[i], qa, qb, by simp <;> omega, by simp <;> omega⟩, Pv (i + 1), fun σ' H' p' => ⟨n - (i + 1), by omega, rfl, hlt, p'⟩, fun x H' y => ?_⟩
    obtain ⟨p, u, v, hp, rfl, rfl, y1, y2⟩ := y
    exact hs i u v σ _ p (y1 xs qa) (y2 ys qb) pp hp
  · have e : i = n := by omega
    subst e
    exact .inl ⟨⟨xs, ys, qa, qb, by omega⟩, hd σ H pp⟩
end


theorem preSum_sum (ns : List Int) : ∀ k, k ≤ ns.length → preSum (fun i => ns.getD i 0) k = (ns.take k).sum
  | 0, _ => by simp [preSum]
  | k + 1, h => by
    show preSum _ k + ns.getD k 0 = _
    rw [preSum_sum ns k (by omega), List.take_succ, List.getElem?_eq_getElem (by omega), List.sum_append, List.getD_eq_getElem?_getD, List.getElem?_eq_getElem (by omega)]
    simp
theorem call_sumI {X : Cx} (hc : X.calm = true) : CallR X (.builtin "sum") (fun xs H Q => ∃ (p : Addr) (ns : List Int), xs = [.ref p] ∧ SqL X.K H p (ns.map V.int) ∧ Q (.int ns.sum) H) := by
  intro pins s σ H xs us Q I r h
  obtain ⟨p, ns, rfl, hq, q⟩ := h
  obtain ⟨u, rfl, ru⟩ := vals1 r
  cases ru
  obtain ⟨its, rv, pl, hz⟩ := I.list hq
  have hh : X.A.handled = none := I.ok.hd hc
  have l1 := rv.length
  rw [List.length_map] at l1
  have rel : ∀ (i : Nat) (v : Value), its.toArray[i]? = some v → ∃ t, v = .int (ns.getD i 0) t := fun i v e => by
    have e' : its[i]? = some v := by simpa using e
    have hlt : i < its.length := (List.getElem?_eq_some_iff.mp e').1
    have hb : ns[i]? = some (ns[i]'(by omega)) := by simp <;> omega
    obtain ⟨u, hu, ru⟩ := rv.get (i := i) (x := V.int (ns[i]'(by omega))) (by rw [List.getElem?_map, hb]; rfl)
    rw [e'] at hu
    cases hu
    rw [List.getD_eq_getElem?_getD, hb]
    exact ru
  refine call_sum_walkG (wpAny_pyIter_list pl.isList ?_)
  refine ⟨s.heap.objs.size, [s.heap.objs.size, p], [s.heap.objs.size], its.toArray.size, _, _, fun i => ns.getD i 0, rfl, Walks.list (show X.A.in1.handled = none from hh) s.heap.objs.size p ?_ its.toArray, ⟨⟨_, Heap.get?_push_size _ rfl, rfl, rfl⟩, ?_⟩, ?_, rel, fun h' tk t' k => ?_⟩
  · obtain ⟨o, _, ho, _⟩ := pl
    exact Nat.ne_of_lt (Heap.lt_size ho)
  · exact pl.isList.at fun o e => Heap.get?_push_of_some _ e
  · intro b hb
    have hb' : b = s.heap.objs.size ∨ b = p := by simpa using hb
    rw [Heap.size_push]
    rcases hb' with rfl | rfl
    · exact Nat.lt_succ_self _
    · obtain ⟨o, _, ho, _⟩ := pl
      exact Nat.lt_succ_of_lt (Heap.lt_size ho)
  · have I1 : Inv X pins σ H { s with heap := h', toks := tk } := I.kept (fun b o e => k b o (by simp; exact Nat.ne_of_lt (Heap.lt_size e)) (Heap.get?_push_of_some _ e))
    refine ⟨.int ns.sum, H, I1, ⟨t', ?_⟩, q⟩
    have e : preSum (fun i => ns.getD i 0) its.toArray.size = ns.sum := by
      rw [List.size_toArray, ← l1, preSum_sum ns _ (Nat.le_refl _), List.take_length]
    rw [e]
theorem kcall_sumI {X : Cx} {K : PySem.W.Frag} (hc : X.calm = true) (hK : X.K = K := by rfl) : CallR X (.builtin "sum") (fun xs H Q => ∃ (p : Addr) (ns : List Int), xs = [.ref p] ∧ SqL K H p (ns.map V.int) ∧ Q (.int ns.sum) H) := by subst hK; exact call_sumI hc
theorem boot_sumB : bootBuiltins "sum" = some (.builtin "sum") := by decide +kernel


theorem op_mulX {X : Cx} : OpR X (binaryOp .Mult) (rI IntMulOk fun i j => .int (i * j)) := opI fun _ _ _ _ _ _ _ hc q => mul_int q hc
theorem bits_le {i : Int} {m : Nat} (h : i.natAbs < 2 ^ m) : Builtin.Int.intBits i ≤ m := by
  unfold Builtin.Int.intBits
  split
  · exact Nat.zero_le _
  · rename_i h0
    have hne : i.natAbs ≠ 0 := by
      intro z
      exact h0 (by have : i = 0 := by omega
                   simp [this])
    exact (Nat.log2_lt hne).mpr h
theorem mulok {i j : Int} {m n : Nat} (hi : i.natAbs < 2 ^ m) (hj : j.natAbs < 2 ^ n) (h : m + n ≤ 134217728) : IntMulOk i j := by
  have h1 := bits_le hi
  have h2 := bits_le hj
  have h3 : ¬ ((Builtin.Int.intBits i : Nat) : Int) + ((Builtin.Int.intBits j : Nat) : Int) > ((bitsLine : Nat) : Int) := by
    have : bitsLine = 134217728 := by decide
    omega
  unfold IntMulOk
  intro hz
  simp only [Bool.and_eq_true] at hz
  have h4 := hz.2
  unfold Builtin.Int.intTooBig at h4
  exact h3 (by simpa using h4)
theorem mulokL {i j : Int} (h1 : -(2 ^ 64) < i) (h2 : i < 2 ^ 64) : IntMulOk i j := CMul.ok (.inl ⟨h1, h2⟩)
end L2


namespace L2
open PySem PySem.W PySem.Calls PyProof.Rows
def cellBits : Nat := 1048576
theorem weight_mem : ∀ {ns : List Int} {x : Int}, x ∈ ns → WData.weight (.int x) ≤ WData.weightAll (ns.map WData.int)
  | n :: ns, x, h => by
    rw [List.map_cons]
    simp only [WData.weightAll]
    rcases List.mem_cons.mp h with rfl | h
    · omega
    · have := weight_mem h
      omega
theorem cell_bits {ns : List Int} (h : WData.layableAll [WData.list (ns.map WData.int)] = true) : ∀ x ∈ ns, x.natAbs < 2 ^ cellBits := by
  intro x hx
  have h1 : decide (WData.weight (WData.list (ns.map WData.int)) ≤ 2 ^ 20) = true := by
    have : WData.layable (WData.list (ns.map WData.int)) = true := by simpa [WData.layableAll] using h
    unfold WData.layable at this
    exact (Bool.and_eq_true_iff.mp this).2
  have h2 : WData.weightAll (ns.map WData.int) ≤ 1048576 := by
    have := of_decide_eq_true h1
    simpa only [WData.weight] using this
  have h3 := weight_mem hx
  by_cases h0 : x.natAbs = 0
  · rw [h0]; exact Nat.pow_pos (by decide)
  · have h4 : WData.weight (.int x) = x.natAbs.log2 + 1 := by
      simp only [WData.weight]
      rw [if_neg (by intro z; have : x = 0 := by simpa using z
                     exact h0 (by rw [this]; rfl))]
    have h5 : x.natAbs.log2 < cellBits := by show _ < 1048576; omega
    exact (Nat.log2_lt h0).mp h5
theorem attach_callB {l : OpenLaw} {n : Nat} {q : Program} {loose : List Str} {XP : (Str → Option Value) → Heap → Prop} {YP : World → Heap → Prop} {d : DefRec}
    (hn : l.most = some n) (hdf : d.params.defaults = [])
    (call : ∀ (w : World) (s₀ s₁ : Shared) (mg mb : Str → Option Value) (fa : Addr) (o : Obj) (pm cd doc : Value) (a : Addr) (vs : List Value) (ns : List Int), (∀ x ∈ ns, x.natAbs < 2 ^ cellBits) →
      Ground q loose [] XP w s₀ mg mb s₁.heap → YP w s₁.heap →
      s₁.heap.get? fa = some o → o.data = .func (docDef d.name d.params d.body d.scope pm cd doc) → s₁.heap.CodeRec cd d.name → mg d.name = some (.ref fa) →
      s₁.heap.get? a = some { cls := .type "list", data := .seq vs.toArray } → IntsAre vs ns → ns.length ≤ n → s₁.gens = #[] →
      codeAny (model l.prog w) callerA (.call (.ref fa) ⟨[.ref a], []⟩) (fun r s' => r = .ok (.ret (.bool true)) ∧ OldK s₁.heap s'.heap ∧ s'.os = s₁.os ∧ AllBare s'.gens) s₁) :
    WalkO q loose XP YP l.row.toRowW d [] (fun f vs => PySem.call f vs) := by
  intro w s₀ s₁ mg mb G Y fa o pm cd doc dV kV ho hd hcd hD hmg hg args vals as hpre hlay hrd hwl hlo
  obtain rfl : dV = .none := Dflts.none hD hdf
  obtain rfl : kV = .none := Dflts.noKw hD
  obtain ⟨a, vs, ns, rfl, rfl, hobj, hints, hlen⟩ := Att.script_of hn hpre hwl
  refine enter_call (codeAny_mono (call w s₀ s₁ mg mb fa o pm cd doc a vs ns (cell_bits hlay) G Y ho (fd_plain hd) hcd hmg hobj hints hlen hg) fun r s' hq => ?_)
  obtain ⟨rfl, h2, h3, h4⟩ := hq
  exact ⟨.inl ⟨.bool true, .bool true, [], rfl, fun _ => rfl, .bool true, Att.post_true l _, fun _ => ⟨List.Pairwise.nil, fun _ hm => (nomatch hm)⟩⟩, h2, h3, h4⟩
theorem walk_ofB {l : PySem.W.OpenLaw} {n k : Nat} {q : Program} {loose : List Str} {XP : (Str → Option Value) → Heap → Prop} {YP : World → Heap → Prop} {d : DefRec} {K : Params → PySem.W.Frag} {CX : World → CXT} {sp : World → Sp} {x : Str}
    (hn : l.most = some n) (hn2 : n ≤ sizeLine) (hdf : d.params.defaults = []) (hr : Room k callerA)
    (hY : ∀ (w : World) (h : Heap), YP w h → (K w.params).In h)
    (F : ∀ (w : World) (mg : Str → Option Value) (fa : Addr) (h : Heap), (K w.params).In h → h.Ns mainGlobals mg → mg d.name = some (.ref fa) →
      ∃ fd : FuncData, (∀ (s : Shared) (u : Value), BindsTo s fd ⟨[u], []⟩ [(x, u)]) ∧
        ∀ base : Heap, (K w.params).In base → base.Ns mainGlobals mg → FnOk l.prog w (K w.params) mg base (CX w) k fa fd [x] (sp w))
    (hsp : ∀ (w : World) (H : Hp) (a : Addr) (ns : List Int), ns.length ≤ n → (∀ x ∈ ns, x.natAbs < 2 ^ cellBits) → Only H → SqL (K w.params) H a (ns.map V.int) → sp w [.ref a] H (fun v _ => v = .bl true) fun _ _ _ => False)
    (hCX : ∀ (w : World) (H : Hp) (s : Shared) (e : Value) (s' : Shared), CX w [] H s (fun _ _ _ => False) e s' → False) :
    PySem.W.WalkO q loose XP YP l.row.toRowW d [] (fun f vs => PySem.call f vs) := by
  refine attach_callB hn hdf fun w s₀ s₁ mg mb fa o pm cd doc a vs ns hbit G Y ho hd hcd hmg hobj hints hlen hg => ?_
  have KX := hY w _ Y
  obtain ⟨fd, hb, hF⟩ := F w mg fa _ KX G.T.g hmg
  exact law_call KX G.T.g G.T.b G.T.builtins G.T.nolimit hg hobj hints (Nat.le_trans hlen hn2) hr hF hb (fun H hO hS => hsp w H a ns hlen hbit hO hS) fun H e s' => hCX w H s₁ e s'
end L2

set_option linter.all false

namespace Hb
def sumN (f : Nat → Int) : Nat → Int
  | 0 => 0
  | n + 1 => sumN f n + f n
def lsI (n : Nat) (f : Nat → Int) : List Int := (List.range n).map f
theorem lsI_len (n : Nat) (f : Nat → Int) : (lsI n f).length = n := by unfold lsI; rw [List.length_map, List.length_range]
theorem lsI_get {n i : Nat} {f : Nat → Int} (h : i < n) : (lsI n f)[i]? = some (f i) := by
  unfold lsI
  rw [List.getElem?_map, List.getElem?_range h]
  rfl
theorem lsI_succ (n : Nat) (f : Nat → Int) : lsI (n + 1) f = lsI n f ++ [f n] := by
  unfold lsI
  rw [List.range_succ, List.map_append]
  rfl
theorem lsI_congr {n : Nat} {f g : Nat → Int} (h : ∀ i, i < n → f i = g i) : lsI n f = lsI n g := by
  unfold lsI
  refine List.map_congr_left fun i hi => h i (List.mem_range.mp hi)
theorem lsI_of (l : List Int) : lsI l.length (fun i => l.getD i 0) = l := by
  refine List.ext_getElem? fun i => ?_
  by_cases h : i < l.length
  · rw [lsI_get h, List.getD_eq_getElem?_getD, List.getElem?_eq_getElem h]; rfl
  · rw [List.getElem?_eq_none (by rw [lsI_len]; omega), List.getElem?_eq_none (by omega)]
theorem lsI_sum (n : Nat) (f : Nat → Int) : (lsI n f).sum = sumN f n := by
  induction n with
  | zero => rfl
  | succ n ih => rw [lsI_succ, List.sum_append, ih]; simp [sumN]
theorem lsI_rep (n : Nat) : (List.replicate n [(0 : Int)]).flatten = lsI n fun _ => 0 := by
  induction n with
  | zero => rfl
  | succ n ih =>
    rw [lsI_succ, ← ih]
    clear ih
    induction n with
    | zero => rfl
    | succ n ih =>
      rw [List.replicate_succ, List.flatten_cons, ih]
      have ih' := ih
      rw [List.replicate_succ, List.flatten_cons] at ih'
      rw [← List.append_assoc, ih']
theorem lsI_set {n i : Nat} {f : Nat → Int} {v : Int} (h : i < n) : (lsI n f).set i v = lsI n fun k => if k = i then v else f k := by
  refine List.ext_getElem? fun j => ?_
  rw [List.getElem?_set]
  by_cases hj : j < n
  · rw [lsI_get hj, lsI_get hj, lsI_len]
    by_cases e : i = j
    · subst e; simp [h]
    · rw [if_neg e, if_neg (fun z => e z.symm)]
  · rw [List.getElem?_eq_none (by rw [lsI_len]; omega), List.getElem?_eq_none (by rw [lsI_len]; omega)]
    split
    · split
      · rename_i e _; omega
      · rfl
    · rfl

theorem bd_mul {i j : Int} {m n : Nat} (hi : i.natAbs < 2 ^ m) (hj : j.natAbs < 2 ^ n) : (i * j).natAbs < 2 ^ (m + n) := by
  rw [Int.natAbs_mul, Nat.pow_add]
  exact Nat.mul_lt_mul'' hi hj
theorem bd_add {i j : Int} {m : Nat} (hi : i.natAbs < 2 ^ m) (hj : j.natAbs < 2 ^ m) : (i + j).natAbs < 2 ^ (m + 1) := by
  have h := Int.natAbs_add_le i j
  rw [Nat.pow_succ]
  generalize 2 ^ m = q at *
  omega
theorem bd_mono {i : Int} {m n : Nat} (hi : i.natAbs < 2 ^ m) (h : m ≤ n) : i.natAbs < 2 ^ n := Nat.lt_of_lt_of_le hi (Nat.pow_le_pow_right (by decide) h)
theorem bd_sum {f : Nat → Int} {m : Nat} : ∀ {n : Nat}, (∀ k, k < n → (f k).natAbs < 2 ^ m) → (sumN f n).natAbs < 2 ^ (m + n)
  | 0, _ => by show (0 : Int).natAbs < _; exact Nat.pow_pos (by decide)
  | n + 1, h => by
    have h1 := bd_sum (n := n) (f := f) fun k hk => h k (by omega)
    show (sumN f n + f n).natAbs < 2 ^ (m + n + 1)
    exact bd_add h1 (bd_mono (h n (by omega)) (Nat.le_add_right m n))
end Hb

set_option Elab.async false
set_option linter.all false
set_option maxRecDepth 100000
set_option maxHeartbeats 4000000

namespace Hb
open PySem L2
abbrev VI (n : Nat) (f : Nat → Int) : List V := (lsI n f).map V.int
def dL (n : Nat) (f : Nat → Int) : L2.D := .lst (nums (lsI n f))
def dT (h w : Nat) (f : Nat → Nat → Int) : L2.D := .lst ((List.range h).map fun i => dL w (f i))
section
variable {K : PySem.W.Frag} {H H' H1 H2 : Hp}
theorem VI_len (n : Nat) (f : Nat → Int) : (VI n f).length = n := by rw [List.length_map, lsI_len]
theorem VI_get {n i : Nat} {f : Nat → Int} (h : i < n) : (VI n f)[i]? = some (.int (f i)) := by rw [List.getElem?_map, lsI_get h]; rfl
theorem VI_at {n i : Nat} {f : Nat → Int} (h : i < n) : atI (VI n f) ((i : Nat) : Int) = some (.int (f i)) := atI_nat (VI_get h)
theorem VI_at0 {n i : Nat} {f : Nat → Int} (h : i < n) : atI (VI n f) ((0 : Int) + (i : Int)) = some (.int (f i)) := by rw [Int.zero_add]; exact VI_at h
theorem VI_inv {n i : Nat} {f : Nat → Int} {u : V} (h : (VI n f)[i]? = some u) : i < n ∧ u = .int (f i) := by
  have h1 : i < (VI n f).length := (List.getElem?_eq_some_iff.mp h).1
  rw [VI_len] at h1
  rw [VI_get h1] at h
  exact ⟨h1, (Option.some.inj h).symm⟩
theorem VI_succ (n : Nat) (f : Nat → Int) : VI (n + 1) f = VI n f ++ [.int (f n)] := by
  show (lsI (n + 1) f).map V.int = _
  rw [lsI_succ, List.map_append]; rfl
theorem VI_congr {n : Nat} {f g : Nat → Int} (h : ∀ i, i < n → f i = g i) : VI n f = VI n g := by
  show (lsI n f).map V.int = (lsI n g).map V.int
  rw [lsI_congr h]
theorem VI_rep (n : Nat) : (List.replicate n [V.int 0]).flatten = VI n fun _ => 0 := by
  show _ = (lsI n fun _ => 0).map V.int
  rw [← lsI_rep, List.map_flatten, List.map_replicate]
  rfl
theorem VI_set {n i : Nat} {f : Nat → Int} {v : Int} (h : i < n) : (VI n f).set i (.int v) = VI n fun k => if k = i then v else f k := by
  show ((lsI n f).map V.int).set i (.int v) = (lsI n _).map V.int
  rw [← lsI_set h, List.map_set]
theorem dL_sq {v : V} {n : Nat} {f : Nat → Int} (h : Rep K H v (dL n f)) : ∃ a, v = .ref a ∧ SqL K H a (VI n f) := by
  obtain ⟨a, vs, e, q, r⟩ := h
  rw [reps_nums.mp r] at q
  exact ⟨a, e, q⟩
theorem dL_mk {a : Addr} {n : Nat} {f : Nat → Int} (h : SqL K H a (VI n f)) : Rep K H (.ref a) (dL n f) := ⟨a, _, rfl, h, reps_nums.mpr rfl⟩
theorem dT_sq {v : V} {h w : Nat} {f : Nat → Nat → Int} (r : Rep K H v (dT h w f)) : ∃ a us, v = .ref a ∧ SqL K H a us ∧ us.length = h ∧ ∀ i u, us[i]? = some u → i < h ∧ ∃ b, u = .ref b ∧ SqL K H b (VI w (f i)) := by
  obtain ⟨a, us, e, q, r⟩ := r
  have hl : us.length = h := by have := r.length; simpa using this
  refine ⟨a, us, e, q, hl, fun i u hu => ?_⟩
  have hi : i < h := by have := (List.getElem?_eq_some_iff.mp hu).1; omega
  obtain ⟨d, hd, rd⟩ := r.getV hu
  rw [List.getElem?_map, List.getElem?_range hi] at hd
  have e2 : d = dL w (f i) := (Option.some.inj hd).symm
  subst e2
  exact ⟨hi, dL_sq rd⟩
theorem dT_congr {h w : Nat} {f g : Nat → Nat → Int} (e : ∀ i j, i < h → j < w → f i j = g i j) : dT h w f = dT h w g := by
  unfold dT
  congr 1
  refine List.map_congr_left fun i hi => ?_
  unfold dL
  rw [lsI_congr fun j hj => e i j (List.mem_range.mp hi) hj]
theorem dep_dL (n : Nat) (f : Nat → Int) : dep (dL n f) = 1 := by show deps (nums _) + 1 = 1; rw [deps_nums]
theorem deps_dLs (w : Nat) (f : Nat → Nat → Int) : ∀ l : List Nat, deps (l.map fun i => dL w (f i)) ≤ 1
  | [] => Nat.zero_le _
  | x :: xs => by
    have h1 := deps_dLs w f xs
    have h2 := dep_dL w (f x)
    show max (dep (dL w (f x))) (deps (xs.map fun i => dL w (f i))) ≤ 1
    omega
theorem dep_dT (h w : Nat) (f : Nat → Nat → Int) : dep (dT h w f) ≤ 8 := by
  have := deps_dLs w f (List.range h)
  show deps _ + 1 ≤ 8
  omega
theorem eq_dT {h w : Nat} {f g : Nat → Nat → Int} (e : ∀ i j, i < h → j < w → f i j = g i j) : eqD (dT h w f) (dT h w g) = true := by rw [dT_congr e]; exact eqD_refl _
structure Rows (H H1 : Hp) (D : Addr) (as : List Addr) (w : Nat) (f : Nat → Nat → Int) : Prop where
  same : Same H H1
  free : H D = none
  «at» : H1 D = some (.lst (as.map V.ref))
  row : ∀ j a, as[j]? = some a → H a = none ∧ a ≠ D ∧ H1 a = some (.lst (VI w (f j)))
theorem Rows.nil {D : Addr} {w : Nat} {f : Nat → Nat → Int} (h : H D = none) : Rows H (upd H D (.lst [])) D [] w f := ⟨Same.new h, h, upd_same, fun j a e => by simp at e⟩
theorem Rows.push {D b : Addr} {as : List Addr} {w : Nat} {f : Nat → Nat → Int} (R : Rows H H1 D as w f) (hb : H1 b = none) (s : Same H1 H2) (h2 : H2 b = some (.lst (VI w (f as.length)))) : Rows H (upd H2 D (.lst (as.map V.ref ++ [.ref b]))) D (as ++ [b]) w f := by
  have hne : b ≠ D := fun z => by rw [z, R.at] at hb; cases hb
  refine ⟨(R.same.trans s).turn R.free, R.free, by rw [upd_same, List.map_append]; rfl, fun j a e => ?_⟩
  by_cases hj : j < as.length
  · rw [List.getElem?_append_left hj] at e
    obtain ⟨h1, h2', h3⟩ := R.row j a e
    exact ⟨h1, h2', by rw [upd_ne h2']; exact s _ _ h3⟩
  · have hl : j < (as ++ [b]).length := (List.getElem?_eq_some_iff.mp e).1
    have ej : j = as.length := by simp at hl; omega
    subst ej
    have eb : b = a := by simpa using e
    subst eb
    exact ⟨R.same.free hb, hne, by rw [upd_ne hne]; exact h2⟩
theorem Rows.rep {D : Addr} {as : List Addr} {h w : Nat} {f : Nat → Nat → Int} (R : Rows H H1 D as w f) (hl : as.length = h) : Rep K H1 (.ref D) (dT h w f) := by
  refine ⟨D, _, rfl, .of R.at, ?_⟩
  subst hl
  have go : ∀ (bs : List Addr) (n : Nat), (∀ j a, bs[j]? = some a → H1 a = some (.lst (VI w (f (n + j))))) → Reps K H1 (bs.map V.ref) ((List.range' n bs.length).map fun i => dL w (f i)) := by
    intro bs
    induction bs with
    | nil => intro n _; rfl
    | cons b bs ih =>
      intro n hr
      refine ⟨.ref b, bs.map V.ref, rfl, dL_mk (.of ?_), ?_⟩
      · have := hr 0 b rfl
        simpa using this
      · refine ih (n + 1) fun j a e => ?_
        have := hr (j + 1) a (by simpa using e)
        rw [show n + 1 + j = n + (j + 1) by omega]
        exact this
  have := go as 0 fun j a e => by rw [Nat.zero_add]; exact (R.row j a e).2.2
  rw [List.range_eq_range']
  exact this
theorem Rows.later {D : Addr} {as : List Addr} {w : Nat} {f : Nat → Nat → Int} (R : Rows H H1 D as w f) (s : Same H1 H2) : Rows H H2 D as w f :=
  ⟨R.same.trans s, R.free, s _ _ R.at, fun j a e => ⟨(R.row j a e).1, (R.row j a e).2.1, s _ _ (R.row j a e).2.2⟩⟩
theorem comp_zip0 {g : TG} {te : TE} {D : Addr} {Q : Hp → Prop} {τ : St} {H : Hp} {K : PySem.W.Frag} {a b : Addr} {xs ys : List V} {n : Nat} (hn : n = min xs.length ys.length) (Pv : Nat → List V → St → Hp → Prop) (h0 : Pv 0 [] τ H) (hl : ∀ i zs τ H, i ≤ n → Pv i zs τ H → SqL K H a xs ∧ SqL K H b ys)
    (hs : ∀ i x y zs τ H p, xs[i]? = some x → ys[i]? = some y → Pv i zs τ H → H p = none → g (.ref p) τ (upd H p (.tup [x, y])) fun τ2 H2 => te τ2 H2 fun y H4 => H4 D = some (.lst zs) ∧ zs.length < sizeLine ∧ Pv (i + 1) (zs ++ [y]) τ2 (upd H4 D (.lst (zs ++ [y]))))
    (hd : ∀ zs τ H, Pv n zs τ H → Q H) : RunC (Itz K a b) g tYes te D Q τ H := comp_zip hn Pv h0 hl (fun i x y zs τ H p e1 e2 pp hp => hs i x y zs τ H p e1 e2 pp hp) hd
end

def spreadV (ns : List Int) (k : Int) : Int := if k < (ns.length : Int) then ns.getD k.toNat 0 else if ns.length = 0 then k * k + 3 * k else ns.getD (k % (ns.length : Int)).toNat 0 * (48271 + k * k) + k
def numV (c kind : Int) : Int :=
  if kind % 4 = 3 then (c * (1000003 : Int) ^ (9 : Int).toNat + c) % (2 * (10 : Int) ^ (59 : Int).toNat + 1) - (10 : Int) ^ (59 : Int).toNat
  else if kind % 4 = 2 then c * 48271 % 2000003 - 1000001
  else if kind % 4 = 1 then c % 7 - 3
  else (c % 9 - 4) * (c / 9 % 2)
theorem getD_bd {ns : List Int} {m : Nat} (h : ∀ x ∈ ns, x.natAbs < 2 ^ m) (i : Nat) : (ns.getD i 0).natAbs < 2 ^ m := by
  by_cases hi : i < ns.length
  · rw [List.getD_eq_getElem?_getD, List.getElem?_eq_getElem hi]
    exact h _ (List.getElem_mem hi)
  · rw [List.getD_eq_getElem?_getD, List.getElem?_eq_none (by omega)]
    exact Nat.pow_pos (by decide)
def newL (H : Hp) (n : Nat) (f : Nat → Int) (Q : V → Hp → Prop) : Prop := ∀ (D : Addr) (H' : Hp), H D = none → Same H H' → H' D = some (.lst (VI n f)) → Q (.ref D) H'
def newT (H : Hp) (h w : Nat) (f : Nat → Nat → Int) (Q : V → Hp → Prop) : Prop := ∀ (D : Addr) (as : List Addr) (H' : Hp), as.length = h → Rows H H' D as w f → Q (.ref D) H'
end Hb

set_option Elab.async false
set_option linter.all false
set_option maxRecDepth 100000
set_option maxHeartbeats 4000000
namespace Hb
open PySem L2
section
variable (K : PySem.W.Frag)
def sp_lawB : Sp := fun vs H Q _ => ∃ (a : Addr) (ns : List Int), vs = [.ref a] ∧ SqL K H a (ns.map V.int) ∧ ns.length ≤ 63 ∧ (∀ x ∈ ns, x.natAbs < 2 ^ cellBits) ∧ ∀ H', Q (.bl true) H'
def sp_mixed : Sp := fun vs H Q _ => ∃ (a b : Int) (x y : Addr) (n : Nat) (p q : Nat → Int), vs = [.int a, .ref x, .int b, .ref y] ∧ SqL K H x (VI n p) ∧ SqL K H y (VI n q) ∧ n ≤ 1000 ∧ (∀ j, j < n → IntMulOk a (p j) ∧ IntMulOk b (q j)) ∧ newL H n (fun j => a * p j + b * q j) Q
def sp_list_times : Sp := fun vs H Q _ => ∃ (x : Addr) (v : V) (h w : Nat) (a : Nat → Int) (f : Nat → Nat → Int), vs = [.ref x, v, .int w] ∧ SqL K H x (VI h a) ∧ Rep K H v (dT h w f) ∧ h ≤ 1000 ∧ w ≤ 1000 ∧ (∀ k j, k < h → j < w → IntMulOk (a k) (f k j)) ∧ newL H w (fun j => sumN (fun k => a k * f k j) h) Q
def sp_product : Sp := fun vs H Q _ => ∃ (u v : V) (h d w : Nat) (f g : Nat → Nat → Int), vs = [u, v, .int w] ∧ Rep K H u (dT h d f) ∧ Rep K H v (dT d w g) ∧ h ≤ 1000 ∧ d ≤ 1000 ∧ w ≤ 1000 ∧ (∀ i k j, i < h → k < d → j < w → IntMulOk (f i k) (g k j)) ∧ newT H h w (fun i j => sumN (fun k => f i k * g k j) d) Q
def sp_column : Sp := fun vs H Q _ => ∃ (v : V) (h w j : Nat) (f : Nat → Nat → Int), vs = [v, .int j] ∧ Rep K H v (dT h w f) ∧ h ≤ 1000 ∧ j < w ∧ newL H h (fun i => f i j) Q
def sp_flipped : Sp := fun vs H Q _ => ∃ (v : V) (h w : Nat) (f : Nat → Nat → Int), vs = [v, .int w] ∧ Rep K H v (dT h w f) ∧ h ≤ 1000 ∧ w ≤ 1000 ∧ newT H w h (fun i j => f j i) Q
def sp_one_row (_K : PySem.W.Frag) : Sp := fun vs H Q _ => ∃ n i : Nat, vs = [.int n, .int i] ∧ n ≤ 1000 ∧ newL H n (fun j => if j = i then 1 else 0) Q
def sp_ones (_K : PySem.W.Frag) : Sp := fun vs H Q _ => ∃ n : Nat, vs = [.int n] ∧ n ≤ 1000 ∧ newT H n n (fun i j => if j = i then 1 else 0) Q
def sp_times_list : Sp := fun vs H Q _ => ∃ (v : V) (x : Addr) (h w : Nat) (f : Nat → Nat → Int) (a : Nat → Int), vs = [v, .ref x] ∧ Rep K H v (dT h w f) ∧ SqL K H x (VI w a) ∧ h ≤ 1000 ∧ w ≤ 1000 ∧ (∀ i k, i < h → k < w → IntMulOk (f i k) (a k)) ∧ newL H h (fun i => sumN (fun k => f i k * a k) w) Q
def sp_L_spread : Sp := fun vs H Q _ => ∃ (a : Addr) (ns : List Int) (k : Int), vs = [.ref a, .int k] ∧ SqL K H a (ns.map V.int) ∧ 0 ≤ k ∧ k ≤ 100000 ∧ ns.length ≤ 63 ∧ Q (.int (spreadV ns k)) H
def sp_L_number_by (_K : PySem.W.Frag) : Sp := fun vs H Q _ => ∃ (c kind : Int), vs = [.int c, .int kind] ∧ c.natAbs < 2 ^ (cellBits + 65) ∧ Q (.int (numV c kind)) H
def sp_L_table_by : Sp := fun vs H Q _ => ∃ (a : Addr) (ns : List Int) (b h w : Nat) (kind : Int), vs = [.ref a, .int b, .int h, .int w, .int kind] ∧ SqL K H a (ns.map V.int) ∧ ns.length ≤ 63 ∧ (∀ x ∈ ns, x.natAbs < 2 ^ cellBits) ∧ b ≤ 10000 ∧ h ≤ 60 ∧ w ≤ 60 ∧
  newT H h w (fun i j => numV (spreadV ns ((b + i * w + j : Nat) : Int)) kind) Q
def sp_L_is_table : Sp := fun vs H Q _ => ∃ (v : V) (h w : Nat) (f : Nat → Nat → Int), vs = [v, .int h, .int w] ∧ Rep K H v (dT h w f) ∧ Q (.bl true) H
def sp_L_copy : Sp := fun vs H Q _ => ∃ (v : V) (h w : Nat) (f : Nat → Nat → Int), vs = [v] ∧ Rep K H v (dT h w f) ∧ h ≤ 1000 ∧ newT H h w f Q
abbrev sp_L_product_by : Sp := sp_product K
def sp_L_is_list : Sp := fun vs H Q _ => ∃ (v : V) (n : Nat) (f : Nat → Int), vs = [v, .int n] ∧ Rep K H v (dL n f) ∧ Q (.bl true) H
def sp_L_one_by (_K : PySem.W.Frag) : Sp := fun vs H Q _ => ∃ n : Nat, vs = [.int n] ∧ n ≤ 1000 ∧ newT H n n (fun i j => if j = i then 1 else 0) Q
def sp_L_summed : Sp := fun vs H Q _ => ∃ (x y : Addr) (n : Nat) (a b : Nat → Int), vs = [.ref x, .ref y] ∧ SqL K H x (VI n a) ∧ SqL K H y (VI n b) ∧ n ≤ 1000 ∧ (∀ k, k < n → IntMulOk (a k) (b k)) ∧ Q (.int (sumN (fun k => a k * b k) n)) H
end
end Hb

set_option Elab.async false
set_option linter.all false
set_option maxRecDepth 100000
namespace L2
open PySem PySem.Spec PyProof.Rows


section
variable {κ : Type} [DecidableEq κ]
def valV (kvs : List (κ × V)) (k : κ) : Option V := (kvs.find? fun kv => decide (kv.1 = k)).map (·.2)

def putK (kvs : List (κ × V)) (k : κ) (v : V) : List (κ × V) :=
  if (kvs.any fun kv => decide (kv.1 = k)) = true then kvs.map (fun kv => if kv.1 = k then (kv.1, v) else kv) else kvs ++ [(k, v)]
def dropK (kvs : List (κ × V)) (k : κ) : List (κ × V) := kvs.filter fun kv => decide (kv.1 ≠ k)

theorem valV_pos {p : κ × V} {r : List (κ × V)} {k : κ} (e : p.1 = k) : valV (p :: r) k = some p.2 := by simp [valV, List.find?_cons, e]
theorem valV_neg {p : κ × V} {r : List (κ × V)} {k : κ} (e : ¬ p.1 = k) : valV (p :: r) k = valV r k := by simp [valV, List.find?_cons, e]
theorem valV_any (k : κ) : ∀ kvs : List (κ × V), (kvs.any fun kv => decide (kv.1 = k)) = (valV kvs k).isSome
  | [] => rfl
  | p :: r => by
    rw [List.any_cons]
    by_cases e : p.1 = k
    · simp only [valV_pos e, decide_eq_true e, Bool.true_or, Option.isSome_some]
    · rw [valV_neg e, decide_eq_false e, Bool.false_or]; exact valV_any k r
theorem RelO.isSome_eq {o : Option V} {u : Option Value} (r : RelO o u) : o.isSome = u.isSome := by
  cases o with
  | none => cases u with
    | none => rfl
    | some _ => exact (show False from r).elim
  | some _ => cases u with
    | none => exact (show False from r).elim
    | some _ => rfl
theorem RelO.getD {o : Option V} {u : Option Value} {d : V} {d' : Value} (r : RelO o u) (rd : RelV d d') : RelV (o.getD d) (u.getD d') := by
  cases o with
  | none => cases u with
    | none => exact rd
    | some _ => exact (show False from r).elim
  | some _ => cases u with
    | none => exact (show False from r).elim
    | some _ => exact r


theorem KV.val {kvs : List (κ × V)} {vs : List (κ × Value)} (r : KV kvs vs) (k : κ) : RelO (valV kvs k) (valueAt vs k) := by
  unfold KV at r
  induction r with
  | nil => exact True.intro
  | @cons p q ps qs h t ih =>
    obtain ⟨h1, h2⟩ := h
    by_cases e : p.1 = k
    · have e' : q.1 = k := h1.symm.trans e
      have b : valueAt (q :: qs) k = some q.2 := by simp [valueAt, List.find?_cons, e']
      rw [valV_pos e, b]; exact h2
    · have e' : ¬ q.1 = k := fun z => e (h1.trans z)
      have b : valueAt (q :: qs) k = valueAt qs k := by simp [valueAt, List.find?_cons, e']
      rw [valV_neg e, b]; exact ih
theorem KV.any {kvs : List (κ × V)} {vs : List (κ × Value)} (r : KV kvs vs) (k : κ) : (kvs.any fun kv => decide (kv.1 = k)) = vs.any fun kv => decide (kv.1 = k) := by
  unfold KV at r
  induction r with
  | nil => rfl
  | cons h t ih => rw [List.any_cons, List.any_cons, ih, h.1]
theorem KV.repl {kvs : List (κ × V)} {vs : List (κ × Value)} (r : KV kvs vs) (k : κ) {y : V} {u : Value} (ry : RelV y u) :
    KV (kvs.map fun kv => if kv.1 = k then (kv.1, y) else kv) (vs.map fun kv => if kv.1 = k then (kv.1, u) else kv) := by
  unfold KV at r ⊢
  induction r with
  | nil => exact .nil
  | @cons p q ps qs h t ih =>
    rw [List.map_cons, List.map_cons]
    refine .cons ?_ ih
    obtain ⟨h1, h2⟩ := h
    by_cases e : p.1 = k
    · rw [if_pos e, if_pos (h1.symm.trans e)]; exact ⟨h1, ry⟩
    · rw [if_neg e, if_neg (fun z => e (h1.trans z))]; exact ⟨h1, h2⟩
theorem KV.put {kvs : List (κ × V)} {vs : List (κ × Value)} (r : KV kvs vs) (k : κ) {y : V} {u : Value} (ry : RelV y u) : KV (putK kvs k y) (stored vs k u) := by
  unfold putK stored
  rw [r.any k]
  by_cases e : (vs.any fun kv => decide (kv.1 = k)) = true
  · rw [if_pos e, if_pos e]; exact r.repl k ry
  · rw [if_neg e, if_neg e]; exact Paired.snoc r ⟨rfl, ry⟩
theorem KV.drop {kvs : List (κ × V)} {vs : List (κ × Value)} (r : KV kvs vs) (k : κ) : KV (dropK kvs k) (without vs k) := by
  unfold KV at r ⊢
  unfold dropK without
  induction r with
  | nil => exact .nil
  | @cons p q ps qs h t ih =>
    obtain ⟨h1, h2⟩ := h
    rw [List.filter_cons, List.filter_cons]
    by_cases e : p.1 = k
    · have a : ¬ decide (p.1 ≠ k) = true := by simp [e]
      have b : ¬ decide (q.1 ≠ k) = true := by simp [h1.symm.trans e]
      rw [if_neg a, if_neg b]; exact ih
    · have e' : ¬ q.1 = k := fun z => e (h1.trans z)
      have a : decide (p.1 ≠ k) = true := by simp [e]
      have b : decide (q.1 ≠ k) = true := by simp [e']
      rw [if_pos a, if_pos b]; exact .cons ⟨h1, h2⟩ ih
theorem KV.keys {kvs : List (κ × V)} {vs : List (κ × Value)} (r : KV kvs vs) : kvs.map (·.1) = vs.map (·.1) := by
  unfold KV at r
  induction r with
  | nil => rfl
  | cons h t ih => rw [List.map_cons, List.map_cons, ih, h.1]
theorem KV.length {kvs : List (κ × V)} {vs : List (κ × Value)} (r : KV kvs vs) : kvs.length = vs.length := Paired.length r
end



abbrev KT (H : Hp) : List (List Key × V) → List (List Key × Addr × Value) → Prop := Paired fun p q => p.1 = q.1 ∧ H q.2.1 = some (.tup (p.1.map kV)) ∧ RelV p.2 q.2.2
theorem KT.val {H : Hp} {kvs : List (List Key × V)} {xs : List (List Key × Addr × Value)} (r : KT H kvs xs) (k : List Key) : RelO (valV kvs k) ((atKey xs k).map (·.2)) := by
  induction r with
  | nil => exact True.intro
  | @cons p q ps qs h t ih =>
    obtain ⟨h1, _, h2⟩ := h
    by_cases e : p.1 = k
    · have e' : q.1 = k := h1.symm.trans e
      have b : atKey (q :: qs) k = some q.2 := by simp [atKey, List.find?_cons, e']
      rw [valV_pos e, b]; exact h2
    · have e' : ¬ q.1 = k := fun z => e (h1.trans z)
      have b : atKey (q :: qs) k = atKey qs k := by simp [atKey, List.find?_cons, e']
      rw [valV_neg e, b]; exact ih
theorem KT.repl {H : Hp} {kvs : List (List Key × V)} {xs : List (List Key × Addr × Value)} (r : KT H kvs xs) (k : List Key) {y : V} {u : Value} (ry : RelV y u) :
    KT H (kvs.map fun kv => if kv.1 = k then (kv.1, y) else kv) (xs.map (putAt k u)) := by
  induction r with
  | nil => exact .nil
  | @cons p q ps qs h t ih =>
    rw [List.map_cons, List.map_cons]
    refine .cons ?_ ih
    obtain ⟨h1, h2, h3⟩ := h
    unfold putAt
    by_cases e : p.1 = k
    · rw [if_pos e, if_pos (h1.symm.trans e)]; exact ⟨h1, h2, ry⟩
    · rw [if_neg e, if_neg (fun z => e (h1.trans z))]; exact ⟨h1, h2, h3⟩
theorem KT.put {H : Hp} {kvs : List (List Key × V)} {xs : List (List Key × Addr × Value)} (r : KT H kvs xs) (k : List Key) {b : Addr} {y : V} {u : Value} (hb : H b = some (.tup (k.map kV))) (ry : RelV y u) :
    KT H (putK kvs k y) (storedH xs k b u) := by
  have e : (kvs.any fun kv => decide (kv.1 = k)) = (atKey xs k).isSome := by
    rw [valV_any, (r.val k).isSome_eq, Option.isSome_map]
  unfold putK storedH
  rw [e]
  by_cases q : (atKey xs k).isSome = true
  · rw [if_pos q, if_pos q]; exact r.repl k ry
  · rw [if_neg q, if_neg q]; exact Paired.snoc r ⟨rfl, hb, ry⟩
theorem KT.keeps {H H' : Hp} {kvs : List (List Key × V)} {xs : List (List Key × Addr × Value)} (r : KT H kvs xs) (ht : ∀ b ys, H b = some (.tup ys) → H' b = some (.tup ys)) : KT H' kvs xs :=
  Paired.mapP r fun _ _ z => ⟨z.1, ht _ _ z.2.1, z.2.2⟩

section
variable {P : Program} {w : World} {H : Hp} {h : Heap} {a : Addr}
theorem rd_of {u : HO} (ok : HOk P w H h) (e : Rd H a u) : ObjOk P w H h a u := e.ok ok
theorem dk_rd {kvs : List (Key × V)} (ok : HOk P w H h) (e : Rd H a (.dK kvs)) : kvs.length ≤ sizeLine ∧ (a == sysModules) = false ∧ ∃ vs, KV kvs vs ∧ h.DictOf (mixKind P w) a vs :=
  show ObjOk P w H h a (.dK kvs) from rd_of ok e
end


def DGet (H : Hp) (a : Addr) (y : V) (r : Option V) : Prop :=
  (∃ kvs k, Rd H a (.dK kvs) ∧ y = kV k ∧ r = valV kvs k) ∨ ∃ kvs k b, Rd H a (.dT kvs) ∧ y = .ref b ∧ H b = some (.tup (k.map kV)) ∧ r = valV kvs k

def DPut (H : Hp) (a : Addr) (y v : V) (H' : Hp) : Prop :=
  (∃ kvs k, H a = some (.dK kvs) ∧ y = kV k ∧ kvs.length < sizeLine ∧ H' = upd H a (.dK (putK kvs k v))) ∨
  ∃ kvs k b, H a = some (.dT kvs) ∧ y = .ref b ∧ H b = some (.tup (k.map kV)) ∧ kvs.length < sizeLine ∧ H' = upd H a (.dT (putK kvs k v))
theorem DGet.k {H : Hp} {a : Addr} {kvs : List (Key × V)} {k : Key} (e : H a = some (.dK kvs)) : DGet H a (kV k) (valV kvs k) := .inl ⟨kvs, k, .inl e, rfl, rfl⟩
theorem DGet.t {H : Hp} {a b : Addr} {kvs : List (List Key × V)} {k : List Key} (e : H a = some (.dT kvs)) (eb : H b = some (.tup (k.map kV))) : DGet H a (.ref b) (valV kvs k) := .inr ⟨kvs, k, b, .inl e, rfl, eb, rfl⟩
theorem DPut.k {H : Hp} {a : Addr} {kvs : List (Key × V)} {k : Key} {v : V} (e : H a = some (.dK kvs)) (hl : kvs.length < sizeLine) : DPut H a (kV k) v (upd H a (.dK (putK kvs k v))) := .inl ⟨kvs, k, e, rfl, hl, rfl⟩
theorem DPut.t {H : Hp} {a b : Addr} {kvs : List (List Key × V)} {k : List Key} {v : V} (e : H a = some (.dT kvs)) (eb : H b = some (.tup (k.map kV))) (hl : kvs.length < sizeLine) :
    DPut H a (.ref b) v (upd H a (.dT (putK kvs k v))) := .inr ⟨kvs, k, b, e, rfl, eb, hl, rfl⟩


section
variable {X : Cx} {pins : List (Addr × Obj)} {σ : St} {H : Hp} {s : Shared} {a : Addr} {y v : V} {u r : Value} {o : Option V} {A : Around} {E : Value → Shared → Prop}

theorem Inv.big (I : Inv X pins σ H s) : sysModules < s.heap.objs.size := by
  have h : mainGlobals < s.heap.objs.size := (I.mod.glob.keeps I.bk).lt
  exact Nat.lt_trans (by decide) h


end

section
variable {X : Cx} {pins : List (Addr × Obj)} {σ : St} {H : Hp} {s : Shared} {a : Addr} {kvs : List (Key × V)} {k : Key} {u : Value} {A : Around} {E : Value → Shared → Prop}

end




def NoSl (i : Expr) : Prop := ∀ ov iv, subscripted i false ov iv = operate [ov, iv] (getItem ov iv)
def tDGet (td ty : TE) : TE := fun σ H Q => td σ H fun x H1 => ty σ H1 fun y H2 => ∃ a v, x = .ref a ∧ DGet H2 a y (some v) ∧ Q v H2

def tDIn (ty td : TE) : TE := fun σ H Q => ty σ H fun y H1 => td σ H1 fun x H2 => ∃ a o, x = .ref a ∧ DGet H2 a y o ∧ Q (.bl o.isSome) H2
def tDNotIn (ty td : TE) : TE := fun σ H Q => ty σ H fun y H1 => td σ H1 fun x H2 => ∃ a o, x = .ref a ∧ DGet H2 a y o ∧ Q (.bl (!o.isSome)) H2

def sDPut (td ty tv : TE) : TS := fun D σ H => tv σ H fun v H1 => td σ H1 fun x H2 => ty σ H2 fun y H3 => ∃ a H4, x = .ref a ∧ DPut H3 a y v H4 ∧ D.nx σ H4

def sDAug (td ty tv : TE) (rd : V → V → Hp → VK → Prop) : TS := fun D σ H => td σ H fun x H1 => ty σ H1 fun y H2 => ∃ a v, x = .ref a ∧ DGet H2 a y (some v) ∧
  tv σ H2 fun y2 H3 => rd v y2 H3 fun z H4 => ∃ H5, DPut H4 a y z H5 ∧ D.nx σ H5

def sDDel (td ty : TE) : TS := fun D σ H => td σ H fun x H1 => ty σ H1 fun y H2 => ∃ a kvs k, x = .ref a ∧ H2 a = some (.dK kvs) ∧ y = kV k ∧ (valV kvs k).isSome = true ∧ D.nx σ (upd H2 a (.dK (dropK kvs k)))

section
variable {X : Cx} {o i e value : Expr} {pos pos' tpos : Pos} {td ty tv : TE}
end



theorem dk_empty {P : Program} {w : World} {H : Hp} (h : Heap) (hb : sysModules < h.objs.size) : ObjOk P w H (h.push { cls := .type "dict", data := .dict #[] }) h.objs.size (.dK []) :=
  ⟨Nat.zero_le _, beq_eq_false_iff_ne.mpr (Ne.symm (Nat.ne_of_lt hb)), [], .nil, Heap.DictOf.new h⟩
def tDNewK : TE := fun _ H Q => ∀ p, H p = none → Q (.ref p) (upd H p (.dK []))
def tDNewT : TE := fun _ H Q => ∀ p, H p = none → Q (.ref p) (upd H p (.dT []))
section
variable {X : Cx} {pos : Pos}
theorem pe_dnewK : PE X (.Dict [] [] pos) tDNewK := fun pins s σ H Q I h =>
  wpAny_Dict_empty ⟨.ref s.heap.objs.size, _, I.laid (a := s.heap.objs.size) (o := .dK []) (t' := s.toks) (fun _ _ q => Heap.get?_push_of_some _ q) (Nat.le_refl _) (dk_empty s.heap I.big), rfl, h _ (I.hok.fresh (Nat.le_refl _))⟩
end


def tPairs : List (TE × TE) → St → Hp → (List (V × V) → Hp → Prop) → Prop
  | [], _, H, Q => Q [] H
  | (tk, tv) :: r, σ, H, Q => tk σ H fun x H1 => tv σ H1 fun y H2 => tPairs r σ H2 fun ps H3 => Q ((x, y) :: ps) H3
abbrev VV : List (V × V) → List (Value × Value) → Prop := Paired fun p q => RelV p.1 q.1 ∧ RelV p.2 q.2
def PPs (X : Cx) (pos : Pos) (keys : List (Option Expr)) (values : List Expr) (trs : List (TE × TE)) : Prop :=
  ∀ (pins : List (Addr × Obj)) (s : Shared) (σ : St) (H : Hp) (Q : List (V × V) → Hp → Prop), Inv X pins σ H s → tPairs trs σ H Q →
    wpAny (model X.prog X.w) X.A (evalPairs (pairTrees keys values X.env pos)) (fun vs s' => ∃ ps H', Inv X pins σ H' s' ∧ VV ps vs ∧ Q ps H') X.xe s
def mergeK (kvs more : List (Key × V)) : List (Key × V) := more.foldl (fun acc kv => putK acc kv.1 kv.2) kvs
def tDisp (trs : List (TE × TE)) : TE := fun σ H Q => ∀ p, H p = none → tPairs trs σ (upd H p (.dK [])) fun ps H2 => H2 p = some (.dK []) ∧ ∃ kvs : List (Key × V), ps = kvs.map (fun kv => (kV kv.1, kv.2)) ∧ kvs.length ≤ 15 ∧ Q (.ref p) (upd H2 p (.dK (mergeK [] kvs)))
structure M1 (X : Cx) (o : Expr) (m : Str) (apos : Pos) (e : Expr) (cpos : Pos) : Prop where
  base : attributeBase o m X.env (eval o X.env) = eval o X.env
  few : ((backTo cpos (starEach [e] X.env)).all (fun x => !x.1) && (backToKw cpos (keywordEach [] X.env)).all (fun x => x.1.isSome)
    && decide (([e] : List Expr).length + ([] : List Keyword).length + (if ([] : List Keyword).isEmpty then 0 else 1) < 30)) = true
  line : (apos.endLine == cpos.line) = true
  trees : backTo cpos (starEach [e] X.env) = [(false, eval e X.env)]
structure M2 (X : Cx) (o : Expr) (m : Str) (apos : Pos) (e f : Expr) (cpos : Pos) : Prop where
  base : attributeBase o m X.env (eval o X.env) = eval o X.env
  few : ((backTo cpos (starEach [e, f] X.env)).all (fun x => !x.1) && (backToKw cpos (keywordEach [] X.env)).all (fun x => x.1.isSome)
    && decide (([e, f] : List Expr).length + ([] : List Keyword).length + (if ([] : List Keyword).isEmpty then 0 else 1) < 30)) = true
  line : (apos.endLine == cpos.line) = true
  trees : backTo cpos (starEach [e, f] X.env) = [(false, eval e X.env), (false, eval f X.env)]


def IsD (H : Hp) (a : Addr) : Prop := (∃ kvs, Rd H a (.dK kvs)) ∨ ∃ kvs, Rd H a (.dT kvs)
section
variable {X : Cx} {pins : List (Addr × Obj)} {σ : St} {H : Hp} {s : Shared} {a : Addr} {y d : V} {u r : Value} {o : Option V} {A : Around} {E : Value → Shared → Prop}

end

def tDGet1 (td ty : TE) : TE := fun σ H Q => td σ H fun x H1 => ∃ a, x = .ref a ∧ IsD H1 a ∧ ty σ H1 fun y H2 => ∃ o, DGet H2 a y o ∧ Q (o.getD .non) H2
def tDGet2 (td ty tx : TE) : TE := fun σ H Q => td σ H fun x H1 => ∃ a, x = .ref a ∧ IsD H1 a ∧ ty σ H1 fun y H2 => tx σ H2 fun z H3 => ∃ o, DGet H3 a y o ∧ Q (o.getD z) H3

def tDPop1 (td ty : TE) : TE := fun σ H Q => td σ H fun x H1 => ∃ a, x = .ref a ∧ IsD H1 a ∧ ty σ H1 fun y H2 => ∃ kvs k v, H2 a = some (.dK kvs) ∧ y = kV k ∧ valV kvs k = some v ∧ Q v (upd H2 a (.dK (dropK kvs k)))
def tDPop2 (td ty tx : TE) : TE := fun σ H Q => td σ H fun x H1 => ∃ a, x = .ref a ∧ IsD H1 a ∧ ty σ H1 fun y H2 => tx σ H2 fun z H3 => ∃ kvs k, H3 a = some (.dK kvs) ∧ y = kV k ∧
  (∀ v, valV kvs k = some v → Q v (upd H3 a (.dK (dropK kvs k)))) ∧ (valV kvs k = none → Q z H3)
section
variable {X : Cx} {o e f : Expr} {apos cpos : Pos} {td ty tx : TE}
end


section
variable {X : Cx} {pins : List (Addr × Obj)} {σ : St} {H : Hp} {s : Shared} {a : Addr} {kvs : List (Key × V)} {A : Around} {E : Value → Shared → Prop}
end


section
variable {X : Cx} {pins : List (Addr × Obj)} {σ : St} {H : Hp} {s : Shared} {a : Addr} {y : V} {u : Value} {A : Around} {E : Value → Shared → Prop}

end
end L2
namespace L2
open PySem PySem.Spec PyProof.Rows
section
variable {X : Cx}
end
end L2

set_option Elab.async false
set_option linter.all false
set_option maxRecDepth 100000
set_option maxHeartbeats 4000000

namespace L2
open PySem PySem.Spec PyProof.Rows PySem.SeqAt

def cK (ms : List (Int × Int)) : List (Key × V) := ms.map fun p => (Sum.inl p.1, V.int p.2)
def lookI (ms : List (Int × Int)) (k : Int) : Option Int := (ms.find? fun p => decide (p.1 = k)).map (·.2)
def eqC (a b : List (Int × Int)) : Bool := decide (a = b) || (a.length == b.length && a.all fun p => decide (lookI b p.1 = some p.2))
inductive IEnts : List DictEntry → List (Int × Int) → Prop
  | nil : IEnts [] []
  | cons {e : DictEntry} {k v : Int} {es : List DictEntry} {ms : List (Int × Int)} {t t' : Tok} : e.key = .int k t → e.hash = hashInt k → e.val = .int v t' → IEnts es ms → IEnts (e :: es) ((k, v) :: ms)
theorem IEnts.length {es : List DictEntry} {ms : List (Int × Int)} (h : IEnts es ms) : es.length = ms.length := by
  induction h with
  | nil => rfl
  | cons _ _ _ _ ih => simp [ih]
theorem IEnts.get {es : List DictEntry} {ms : List (Int × Int)} (h : IEnts es ms) : ∀ {i : Nat} {e : DictEntry}, es[i]? = some e → ∃ k v t t', ms[i]? = some (k, v) ∧ e.key = .int k t ∧ e.hash = hashInt k ∧ e.val = .int v t' := by
  induction h with
  | nil => intro i e q; simp at q
  | @cons e0 k v es ms t t' h1 h2 h3 _ ih =>
    intro i e q
    cases i with
    | zero =>
      have : e0 = e := by simpa using q
      subst this
      exact ⟨k, v, t, t', by simp, h1, h2, h3⟩
    | succ i =>
      obtain ⟨k', v', t1, t2, q1, q2⟩ := ih (i := i) (e := e) (by simpa using q)
      exact ⟨k', v', t1, t2, by simpa using q1, q2⟩
structure IDict (h : Heap) (a : Addr) (ms : List (Int × Int)) : Prop where
  ex : ∃ o es ep, h.get? a = some o ∧ o.ExactDict ∧ o.data = .dict es ep ∧ IEnts es.toList ms
  sys : (a == sysModules) = false
  nd : (ms.map (·.1)).Nodup
theorem IDict.typeIs {s : Shared} {a : Addr} {ms : List (Int × Int)} (x : IDict s.heap a ms) : s.TypeIs (.ref a) "dict" := let ⟨o, _, _, ho, hc, _⟩ := x.ex; ⟨o, ho, hc.1⟩
end L2

set_option Elab.async false
set_option linter.all false
set_option maxRecDepth 100000
set_option maxHeartbeats 4000000

namespace L2
open PySem PySem.Spec PyProof.Rows
section
variable {prog : Program} {w : World} {A : Around} {E : Value → Shared → Prop}
variable {KT : Type} [DecidableEq KT] {knd : KeyKind prog w KT}

def But2 (d it : Addr) (h0 h : Heap) : Prop := ∀ b o, b ≠ d → b ≠ it → h0.get? b = some o → h.get? b = some o
end

end L2
namespace L2
open PySem PySem.Spec PyProof.Rows PySem.SeqAt
end L2

set_option Elab.async false
set_option linter.all false
set_option maxRecDepth 100000
set_option maxHeartbeats 4000000

namespace L2
open PySem PySem.Spec PyProof.Rows

section
variable {X : Cx} {pins : List (Addr × Obj)} {σ : St} {H : Hp} {s : Shared} {a : Addr} {kvs : List (Key × V)}
end


def tFrz (t : TE) : TE := fun σ H Q => t σ H Q ∨ ∃ (a : Addr) (kvs : List (Key × V)), H a = some (.dK kvs) ∧ ((kvs.map (·.1)).Nodup → ∀ o : Obj, t σ (upd H a (.frz o (.dK kvs))) fun v H' => H' a = some (.frz o (.dK kvs)) ∧ Q v (upd H' a (.dK kvs)))
def sFrz (t : TS) : TS := fun D σ H => t D σ H ∨ ∃ (a : Addr) (kvs : List (Key × V)), H a = some (.dK kvs) ∧ ((kvs.map (·.1)).Nodup → ∀ o : Obj, t ⟨fun σ' H' => H' a = some (.frz o (.dK kvs)) ∧ D.nx σ' (upd H' a (.dK kvs)), fun v H' => H' a = some (.frz o (.dK kvs)) ∧ D.rt v (upd H' a (.dK kvs)),
  fun σ' H' => H' a = some (.frz o (.dK kvs)) ∧ D.bk σ' (upd H' a (.dK kvs)), fun σ' H' => H' a = some (.frz o (.dK kvs)) ∧ D.ct σ' (upd H' a (.dK kvs))⟩ σ (upd H a (.frz o (.dK kvs))))
theorem KV.getV : ∀ {kvs : List (Key × V)} {vs : List (Key × Value)} {i : Nat} {k : Key} {v : V}, KV kvs vs → kvs[i]? = some (k, v) → ∃ u, vs[i]? = some (k, u) ∧ RelV v u
  | _, _, i, k, v, .nil, e => by simp at e
  | _, _, 0, k, v, .cons (b := q) r t, e => by
    simp only [List.getElem?_cons_zero, Option.some.injEq] at e
    subst e
    obtain ⟨k', u⟩ := q
    have e1 : k = k' := r.1
    subst e1
    exact ⟨u, by simp, r.2⟩
  | _, _, i + 1, k, v, .cons r t, e => by
    obtain ⟨u, e1, e2⟩ := KV.getV (i := i) t (by simpa using e)
    exact ⟨u, by simpa using e1, e2⟩
def Itm (d : Addr) (o : Obj) : It :=
  ⟨fun i H => ∃ kvs k v, H d = some (.frz o (.dK kvs)) ∧ kvs[i]? = some (k, v),
   fun i H x H' => ∃ p k v, H p = none ∧ x = .ref p ∧ H' = upd H p (.tup [kV k, v]) ∧ ∀ kvs, H d = some (.frz o (.dK kvs)) → kvs[i]? = some (k, v),
   fun i H => ∃ kvs, H d = some (.frz o (.dK kvs)) ∧ kvs.length ≤ i⟩
def iItems (td : TE) : TI := fun σ H R => td σ H fun x H1 => ∃ d o kvs, x = .ref d ∧ H1 d = some (.frz o (.dK kvs)) ∧ R (Itm d o) H1
def Itk (d : Addr) (o : Obj) : It :=
  ⟨fun i H => ∃ kvs k v, H d = some (.frz o (.dK kvs)) ∧ kvs[i]? = some (k, v),
   fun i H x H' => H' = H ∧ ∃ k v, x = kV k ∧ ∀ kvs, H d = some (.frz o (.dK kvs)) → kvs[i]? = some (k, v),
   fun i H => ∃ kvs, H d = some (.frz o (.dK kvs)) ∧ kvs.length ≤ i⟩
def iKeys (td : TE) : TI := fun σ H R => td σ H fun x H1 => ∃ d o kvs, x = .ref d ∧ H1 d = some (.frz o (.dK kvs)) ∧ R (Itk d o) H1
section
variable {g : TG} {tc : TT} {te : TE} {D : Addr} {Q : Hp → Prop} {τ : St} {H : Hp}
end
end L2

set_option Elab.async false
set_option linter.all false
set_option maxRecDepth 100000
set_option maxHeartbeats 4000000

namespace L2
open PySem PySem.Spec PyProof.Rows PySem.SeqAt
section
variable {X : Cx} {pins : List (Addr × Obj)} {σ : St} {H : Hp} {s : Shared} {a : Addr} {ms : List (Int × Int)}
end
def sameC (ms ns : List (Int × Int)) : Bool := ms.length == ns.length && ms.all fun p => decide (lookI ns p.1 = some p.2)
def rEqC : R2 := fun x y H Q => ∃ a b ms ns, x = .ref a ∧ y = .ref b ∧ Rd H a (.dK (cK ms)) ∧ Rd H b (.dK (cK ns)) ∧ Q (.bl (sameC ms ns)) H
section
variable {X : Cx} {n : Nat} {K : PySem.W.Frag}
def rEqCL (K : PySem.W.Frag) : R2 := fun x y H Q => ∃ (l m : Addr) (as bs : List Addr), x = .ref l ∧ y = .ref m ∧ SqL K H l (as.map V.ref) ∧ SqL K H m (bs.map V.ref) ∧ as.length = bs.length ∧
  (∀ (i : Nat) a b, as[i]? = some a → bs[i]? = some b → ∃ ms ns, Rd H a (.dK (cK ms)) ∧ Rd H b (.dK (cK ns)) ∧ sameC ms ns = true) ∧ Q (.bl true) H
end
end L2
namespace L2
open PySem PySem.Spec PyProof.Rows
theorem u1 {n c : Nat} (h : n + 8 < c) : n + 1 < c := by omega

def getI (ms : List (Int × Int)) (k : Int) : Int := (lookI ms k).getD 0
def putI (ms : List (Int × Int)) (k v : Int) : List (Int × Int) := if (ms.any fun p => decide (p.1 = k)) = true then ms.map (fun p => if p.1 = k then (p.1, v) else p) else ms ++ [(k, v)]
def dropI (ms : List (Int × Int)) (k : Int) : List (Int × Int) := ms.filter fun p => decide (p.1 ≠ k)
end L2

set_option Elab.async false
set_option linter.all false
set_option maxRecDepth 100000
set_option maxHeartbeats 4000000

namespace L2
open PySem PySem.Spec PyProof.Rows
inductive DA where
  | d (d : D) | dic
def RepA (K : PySem.W.Frag) (H : Hp) (v : V) : DA → Prop
  | .d d => Rep K H v d
  | .dic => ∃ a kvs, v = .ref a ∧ Rd H a (.dK kvs)
def isA (n : String) : DA → Bool
  | .d d => isD n d
  | .dic => n == "dict"
theorem RepA.same {K : PySem.W.Frag} {H H' : Hp} {v : V} {d : DA} (s : Same H H') (h : RepA K H v d) : RepA K H' v d := by
  cases d with
  | d d => exact Rep.same s h
  | dic =>
    obtain ⟨a, kvs, e, hr⟩ := h
    refine ⟨a, kvs, e, ?_⟩
    rcases hr with hr | ⟨o, hr⟩
    · exact .inl (s _ _ hr)
    · exact .inr ⟨o, s _ _ hr⟩
theorem call_isiA {X : Cx} {K : PySem.W.Frag} (hK : X.K = K := by rfl) : CallR X (.builtin "isinstance") (fun xs H Q => ∃ x n d, xs = [x, .ty n] ∧ (n = "int" ∨ n = "bool" ∨ n = "str" ∨ n = "tuple" ∨ n = "list" ∨ n = "dict") ∧ RepA K H x d ∧ Q (.bl (isA n d)) H) := by
  subst hK
  intro pins s σ H xs us Q I r h
  obtain ⟨x, n, d, e, hn, hx, q⟩ := h
  cases d with
  | d d => exact call_isinst pins s σ H xs us Q I r ⟨x, n, d, e, hn, hx, q⟩
  | dic =>
    subst e
    obtain ⟨a, kvs, rfl, hr⟩ := hx
    obtain ⟨u, v, rfl, rx, rt⟩ := vals2 r
    cases rt
    cases rx
    obtain ⟨z, hd, vs, rel, o, es, ep, ho, ex, _⟩ := dk_rd I.hok hr
    rcases hn with rfl | rfl | rfl | rfl | rfl | rfl
    · exact PySem.IsiPair.dict_int ho ex.1 ⟨.bl false, H, I.tok _, rfl, q⟩
    · exact PySem.IsiPair.dict_bool ho ex.1 ⟨.bl false, H, I.tok _, rfl, q⟩
    · exact PySem.IsiPair.dict_str ho ex.1 ⟨.bl false, H, I.tok _, rfl, q⟩
    · exact PySem.IsiPair.dict_tuple ho ex.1 ⟨.bl false, H, I.tok _, rfl, q⟩
    · exact PySem.IsiPair.dict_list ho ex.1 ⟨.bl false, H, I.tok _, rfl, q⟩
    · exact PySem.IsiPair.dict_dict ho ex.1 ⟨.bl true, H, I, rfl, q⟩
end L2

set_option Elab.async false
set_option linter.all false
set_option maxRecDepth 100000
set_option maxHeartbeats 4000000

namespace L2
open PySem PySem.Spec PyProof.Rows
structure RoomN (k : Nat) (A : Around) : Prop where
  dp : A.depth + 3 * k + 5 < recursionLimit
  un : A.units + 16 * k + 200 < cLine
theorem RoomN.mono {j k : Nat} {A : Around} (r : RoomN k A) (h : j ≤ k) : RoomN j A := ⟨by have := r.dp; omega, by have := r.un; omega⟩
theorem RoomN.deeper {k : Nat} {A : Around} (r : RoomN (k + 1) A) (env : Env) : RoomN k (A.deeper env) :=
  ⟨by have := r.dp; show A.depth + 1 + 3 * k + 5 < _; omega, by have := r.un; show A.units + 3 + 16 * k + 200 < _; omega⟩
theorem RoomN.depth {k : Nat} {A : Around} (r : RoomN k A) : A.depth < recursionLimit := by have := r.dp; omega
theorem RoomN.units {k : Nat} {A : Around} (r : RoomN k A) : A.units + 64 < cLine := by have := r.un; omega
theorem Room.n {k : Nat} {A : Around} {v : Option Value} (r : Room k A) : RoomN k (A.mark v) := ⟨r.dp, r.un⟩
structure FnOkN (P : Program) (w : World) (K : PySem.W.Frag) (mg : Str → Option Value) (base : Heap) (k : Nat) (f : Addr) (fd : FuncData) (ps : List Str) (sp : Sp) : Prop where
  len : ∀ vs H Q E, sp vs H Q E → vs.length = ps.length
  run : ∀ (A : Around) (outer : List Env) (s : Shared) (H : Hp) (args : Args) (us : List Value) (vs : List V) (Q : VK) (E : XK), RoomN k A → Env0 P w K mg base A outer s H → BindsTo s fd args (ps.zip us) → Vals vs us → sp vs H Q E →
    codeAny (model P w) A (.call (.ref f) args) (CR CX0 outer P w H s Q E) s
abbrev cxN (P : Program) (w : World) (K : PySem.W.Frag) (mg : Str → Option Value) (base : Heap) (N : List Str) (qual : Str) (scope : Scope) (f : Addr) (cd : Value) (A : Around) (outer : List Env) (s : Shared) (H : Hp) (E : XK) : Cx :=
  { cxOf CX0 P w K mg base N qual scope f cd A outer s H E with calm := false, xe := fun _ _ => False }
section
variable {P : Program} {w : World} {K : PySem.W.Frag} {mg : Str → Option Value} {base : Heap}
end
structure HasN (P : Program) (w : World) (K : PySem.W.Frag) (mg : Str → Option Value) (base : Heap) (x : Str) (ps : List Str) (k : Nat) (sp : Sp) : Prop where
  ex : ∃ (f : Addr) (fd : FuncData), mg x = some (.ref f) ∧ PySem.W.keepIn K (.ref f) = true ∧ Binds K fd ps [] ∧ FnOkN P w K mg base k f fd ps sp
section
variable {X : Cx} {x : Str} {ps : List Str} {j k : Nat} {sp : Sp} {p pos : Pos} {e : Expr} {es : List Expr} {t : TA}
end
end L2

set_option Elab.async false
set_option linter.all false
set_option maxRecDepth 100000
set_option maxHeartbeats 4000000

namespace L2
open PySem PySem.Spec PyProof.Rows
mutual
def toPD : D → PyData
  | .non => .none
  | .bl b => .bool b
  | .int i => .int i
  | .str x => .str x
  | .tup ds => .tuple (toPDs ds)
  | .lst ds => .list (toPDs ds)
def toPDs : List D → List PyData
  | [] => []
  | d :: ds => toPD d :: toPDs ds
end
section
variable {X : Cx} {pins : List (Addr × Obj)} {σ : St} {H : Hp} {s : Shared}
mutual
theorem reads_of (I : Inv X pins σ H s) : ∀ (d : D) {v : V} {u : Value}, Rep X.K H v d → RelV v u → ∃ as, Reads s.heap u (toPD d) as
  | .non, v, u, h, r => by
    cases (show v = .non from h)
    obtain rfl : u = .none := r
    exact ⟨_, .none⟩
  | .bl b, v, u, h, r => by
    cases (show v = .bl b from h)
    obtain rfl : u = .bool b := r
    exact ⟨_, .bool b⟩
  | .int i, v, u, h, r => by
    cases (show v = .int i from h)
    obtain ⟨t, rfl⟩ := r
    exact ⟨_, .int i t⟩
  | .str x, v, u, h, r => by
    cases (show v = .str x from h)
    obtain ⟨t, rfl⟩ := r
    exact ⟨_, .str x t⟩
  | .tup ds, v, u, h, r => by
    obtain ⟨a, vs, rfl, hq, hr⟩ := h
    obtain rfl : u = .ref a := r
    obtain ⟨its, rv, p, hz⟩ := I.tuple hq
    obtain ⟨o, ho, hc, n, hd⟩ := (show s.heap.IsTuple a its.toArray from p)
    obtain ⟨as, ra⟩ := readsAll_of I ds hr rv
    exact ⟨as, .tuple ho hc hd (by simpa using ra)⟩
  | .lst ds, v, u, h, r => by
    obtain ⟨a, vs, rfl, hq, hr⟩ := h
    obtain rfl : u = .ref a := r
    obtain ⟨its, rv, p, hz⟩ := I.list hq
    obtain ⟨o, ho, hc, n, hd⟩ := p.isList
    obtain ⟨as, ra⟩ := readsAll_of I ds hr rv
    exact ⟨a :: as, .list ho hc hd (by simpa using ra)⟩
theorem readsAll_of (I : Inv X pins σ H s) : ∀ (ds : List D) {vs : List V} {us : List Value}, Reps X.K H vs ds → Vals vs us → ∃ as, ReadsAll s.heap us (toPDs ds) as
  | [], vs, us, h, r => by
    cases (show vs = [] from h)
    cases r
    exact ⟨_, .nil⟩
  | d :: ds, vs, us, h, r => by
    obtain ⟨v, q, rfl, hv, hq⟩ := h
    cases r with
    | cons r1 r2 =>
      obtain ⟨as, ra⟩ := reads_of I d hv r1
      obtain ⟨bs, rb⟩ := readsAll_of I ds hq r2
      exact ⟨_, .cons ra rb⟩
end
end


mutual
theorem hasDict_toPD : ∀ d : D, (toPD d).hasDict = false
  | .non => rfl
  | .bl _ => rfl
  | .int _ => rfl
  | .str _ => rfl
  | .tup ds => hasDict_toPDs ds
  | .lst ds => hasDict_toPDs ds
theorem hasDict_toPDs : ∀ ds : List D, PyData.hasDictAll (toPDs ds) = false
  | [] => rfl
  | d :: ds => by
    show ((toPD d).hasDict || PyData.hasDictAll (toPDs ds)) = false
    rw [hasDict_toPD d, hasDict_toPDs ds]
    rfl
end
end L2

set_option Elab.async false
set_option linter.all false
set_option maxRecDepth 100000
set_option maxHeartbeats 4000000

namespace L2
open PySem PySem.Spec PyProof.Rows
inductive DE where
  | d (d : D) | nul
inductive TH where
  | one (e : DE) | rows (es : List DE)
def RepE (K : PySem.W.Frag) (H : Hp) (v : V) : DE → Prop
  | .d d => Rep K H v d
  | .nul => ∃ a, v = .ref a ∧ Rd H a (.dK [])
def RepsE (K : PySem.W.Frag) (H : Hp) : List V → List DE → Prop
  | [], [] => True
  | v :: vs, e :: es => RepE K H v e ∧ RepsE K H vs es
  | _, _ => False
def RepT (K : PySem.W.Frag) (H : Hp) (v : V) : TH → Prop
  | .one e => RepE K H v e
  | .rows es => ∃ a vs, v = .ref a ∧ SqL K H a vs ∧ RepsE K H vs es
def isE (n : String) : DE → Bool
  | .d d => isD n d
  | .nul => n == "dict"
def isT (n : String) : TH → Bool
  | .one e => isE n e
  | .rows _ => n == "list"
def toPE : DE → PyData
  | .d d => toPD d
  | .nul => .dict []
def toPT : TH → PyData
  | .one e => toPE e
  | .rows es => .list (es.map toPE)
theorem RepE.same {K : PySem.W.Frag} {H H' : Hp} {v : V} {d : DE} (s : Same H H') (h : RepE K H v d) : RepE K H' v d := by
  cases d with
  | d d => exact Rep.same s h
  | nul =>
    obtain ⟨a, e, hr⟩ := h
    refine ⟨a, e, ?_⟩
    rcases hr with hr | ⟨o, hr⟩
    · exact .inl (s _ _ hr)
    · exact .inr ⟨o, s _ _ hr⟩
theorem RepsE.same {K : PySem.W.Frag} {H H' : Hp} (s : Same H H') : ∀ {vs : List V} {es : List DE}, RepsE K H vs es → RepsE K H' vs es
  | [], [], _ => trivial
  | _ :: _, _ :: _, h => ⟨RepE.same s h.1, RepsE.same s h.2⟩
  | [], _ :: _, h => h.elim
  | _ :: _, [], h => h.elim
theorem RepT.same {K : PySem.W.Frag} {H H' : Hp} {v : V} {t : TH} (s : Same H H') (h : RepT K H v t) : RepT K H' v t := by
  cases t with
  | one e => exact RepE.same s h
  | rows es =>
    obtain ⟨a, vs, e, hq, hr⟩ := h
    exact ⟨a, vs, e, s.seq hq, RepsE.same s hr⟩
theorem RepsE.len {K : PySem.W.Frag} {H : Hp} : ∀ {vs : List V} {es : List DE}, RepsE K H vs es → vs.length = es.length
  | [], [], _ => rfl
  | _ :: _, _ :: _, h => by rw [List.length_cons, List.length_cons, RepsE.len h.2]
  | [], _ :: _, h => h.elim
  | _ :: _, [], h => h.elim
theorem RepsE.get {K : PySem.W.Frag} {H : Hp} : ∀ {vs : List V} {es : List DE}, RepsE K H vs es → ∀ {i : Nat} {v : V}, vs[i]? = some v → ∃ e, es[i]? = some e ∧ RepE K H v e
  | [], [], _, i, v, e => by simp at e
  | _ :: _, _ :: _, h, 0, v, e => by
    simp only [List.getElem?_cons_zero, Option.some.injEq] at e
    subst e
    exact ⟨_, rfl, h.1⟩
  | _ :: _, _ :: _, h, i + 1, v, e => by
    simp only [List.getElem?_cons_succ] at e
    obtain ⟨z, h1, h2⟩ := RepsE.get h.2 e
    exact ⟨z, by simpa using h1, h2⟩
  | [], _ :: _, h, _, _, _ => h.elim
  | _ :: _, [], h, _, _, _ => h.elim
theorem RepsE.mk {K : PySem.W.Frag} {H : Hp} : ∀ {vs : List V} {es : List DE}, vs.length = es.length → (∀ (i : Nat) v e, vs[i]? = some v → es[i]? = some e → RepE K H v e) → RepsE K H vs es
  | [], [], _, _ => trivial
  | v :: vs, e :: es, hl, h => ⟨h 0 v e rfl rfl, RepsE.mk (by simpa using hl) fun i v e h1 h2 => h (i + 1) v e (by simpa using h1) (by simpa using h2)⟩
  | [], _ :: _, hl, _ => by simp at hl
  | _ :: _, [], hl, _ => by simp at hl
theorem RepsE.put {K : PySem.W.Frag} {H : Hp} {v : V} {e : DE} (hv : RepE K H v e) : ∀ {vs : List V} {es : List DE}, RepsE K H vs es → ∀ i, RepsE K H (vs.set i v) (es.set i e)
  | [], [], _, i => by simp [RepsE]
  | _ :: _, _ :: _, h, 0 => ⟨hv, h.2⟩
  | _ :: _, _ :: _, h, i + 1 => ⟨h.1, RepsE.put hv h.2 i⟩
  | [], _ :: _, h, _ => h.elim
  | _ :: _, [], h, _ => h.elim
theorem RepsE.of {K : PySem.W.Frag} {H : Hp} : ∀ {vs : List V} {ds : List D}, Reps K H vs ds → RepsE K H vs (ds.map DE.d)
  | vs, [], h => by cases (show vs = [] from h); trivial
  | vs, d :: ds, h => by
    obtain ⟨v, q, rfl, hv, hq⟩ := h
    exact ⟨hv, RepsE.of hq⟩
section
variable {X : Cx} {K : PySem.W.Frag}
theorem call_isiT (hK : X.K = K := by rfl) : CallR X (.builtin "isinstance") (fun xs H Q => ∃ x n t, xs = [x, .ty n] ∧ (n = "int" ∨ n = "bool" ∨ n = "str" ∨ n = "tuple" ∨ n = "list" ∨ n = "dict") ∧ RepT K H x t ∧ Q (.bl (isT n t)) H) := by
  subst hK
  intro pins s σ H xs us Q I r h
  obtain ⟨x, n, t, e, hn, hx, q⟩ := h
  match t, hx, q with
  | .one (.d d), hx, q => exact call_isinst pins s σ H xs us Q I r ⟨x, n, d, e, hn, hx, q⟩
  | .one .nul, hx, q =>
    obtain ⟨a, e2, hr⟩ := hx
    exact call_isiA (K := X.K) rfl pins s σ H xs us Q I r ⟨x, n, .dic, e, hn, ⟨a, [], e2, hr⟩, q⟩
  | .rows es, hx, q =>
    subst e
    obtain ⟨a, vs, rfl, hq, _⟩ := hx
    obtain ⟨u, v, rfl, rx, rt⟩ := vals2 r
    cases rt
    cases rx
    obtain ⟨its, _, ⟨o, _, e, c, _⟩, _⟩ := I.list hq
    have k := kit_ok (K := X.K) (d := .lst []) hn
    exact PySem.W.kia_one PySem.W.kitx_list I.kIn ⟨o, e, c⟩ k (fun z => nomatch z) fun tk => ⟨.bl (n == "list"), H, I.tok tk, rfl, q⟩
end
section
variable {X : Cx} {pins : List (Addr × Obj)} {σ : St} {H : Hp} {s : Shared}
end

structure Fin (B k : Nat) (p : PyData) : Prop where
  sh : p.showable = true
  le : p.shown.length ≤ B
  dp : p.depth ≤ k
theorem Fin.mono {B B' k k' : Nat} {p : PyData} (h : Fin B k p) (hB : B ≤ B') (hk : k ≤ k') : Fin B' k' p := ⟨h.sh, Nat.le_trans h.le hB, Nat.le_trans h.dp hk⟩
theorem fin_all {B k : Nat} : ∀ {ps : List PyData}, (∀ p ∈ ps, Fin B k p) → PyData.showableAll ps = true ∧ ((PyData.shownAll ps).map (·.length)).sum ≤ B * ps.length ∧ PyData.depthAll ps ≤ k ∧ (PyData.shownAll ps).length = ps.length
  | [], _ => ⟨rfl, by simp [PyData.shownAll], by simp [PyData.depthAll], rfl⟩
  | p :: ps, h => by
    obtain ⟨h1, h2, h3, h4⟩ := fin_all (ps := ps) fun q hq => h q (List.mem_cons_of_mem _ hq)
    have hp := h p List.mem_cons_self
    refine ⟨by simp only [PyData.showableAll, hp.sh, h1, Bool.and_self], ?_, ?_, by simp only [PyData.shownAll, List.length_cons, h4]⟩
    · simp only [PyData.shownAll, List.map_cons, List.sum_cons, List.length_cons, Nat.mul_add, Nat.mul_one]
      have := hp.le
      omega
    · simp only [PyData.depthAll]
      exact Nat.max_le.mpr ⟨hp.dp, h3⟩
theorem fin_list {B k : Nat} {ps : List PyData} (h : ∀ p ∈ ps, Fin B k p) (hl : ps.length ≤ 41) : Fin (41 * (B + 2) + 3) (k + 1) (.list ps) := by
  obtain ⟨h1, h2, h3, h4⟩ := fin_all h
  have h5 := listText_len_le (PyData.shownAll ps)
  have h6 : B * ps.length ≤ B * 41 := Nat.mul_le_mul_left _ hl
  refine ⟨by simpa only [PyData.showable] using h1, ?_, by simp only [PyData.depth]; omega⟩
  simp only [PyData.shown]
  omega
theorem fin_tuple {B k : Nat} {ps : List PyData} (h : ∀ p ∈ ps, Fin B k p) (hl : ps.length ≤ 41) : Fin (41 * (B + 2) + 3) (k + 1) (.tuple ps) := by
  obtain ⟨h1, h2, h3, h4⟩ := fin_all h
  have h5 := tupleText_len_le (PyData.shownAll ps)
  have h6 : B * ps.length ≤ B * 41 := Nat.mul_le_mul_left _ hl
  refine ⟨by simpa only [PyData.showable] using h1, ?_, by simp only [PyData.depth]; omega⟩
  simp only [PyData.shown]
  omega
end L2

set_option Elab.async false
set_option linter.all false
set_option maxRecDepth 100000
set_option maxHeartbeats 4000000

namespace L2
open PySem PySem.Spec PyProof.Rows
def intOf : Expr → Option Int
  | .Constant (.int i) _ _ => some i
  | _ => none
def intsOf : List Expr → Option (List Int)
  | [] => some []
  | e :: es => match intOf e, intsOf es with
    | some i, some is => some (i :: is)
    | _, _ => none
def tInts (ns : List Int) : TA := fun _ H Q => Q (ns.map V.int) H
end L2
namespace L2
open PySem PySem.Spec PyProof.Rows

structure PAw (X : Cx) (es : List Expr) (t : TA) : Prop where
  h : PA X es t
theorem paw_nil {X : Cx} : PAw X [] tNil := ⟨pa_nil⟩
theorem paw_cons {X : Cx} {e : Expr} {es : List Expr} {te : TE} {t : TA} (ha : PE X e te) (hr : PAw X es t) (hs : starEach (e :: es) X.env = (false, eval e X.env) :: starEach es X.env := by rfl) : PAw X (e :: es) (tCons te t) := ⟨pa_cons ha hr.h hs⟩
end L2

set_option Elab.async false
set_option linter.all false
set_option maxRecDepth 100000
set_option maxHeartbeats 4000000
namespace L2
open PySem PySem.Spec PyProof.Rows

structure PEw (X : Cx) (e : Expr) (t : TE) : Prop where
  h : PE X e t
theorem pe_ixTw {X : Cx} {K : PySem.W.Frag} {sl : Expr} {es : List Expr} {k : Nat} {p q : Pos} {ta : TA} {tsl : TE} (ha : PAw X es ta) (hsl : PE X sl tsl) (hpi : PlainIx sl) (hK : X.K = K := by rfl) :
    PEw X (.Subscript (.Tuple es k p) sl q) (tOp (rIxT K) (tTup ta) tsl) := by
  subst hK
  exact ⟨pe_ix kix_tup (pe_tup ha.h) hsl hpi⟩
end L2
namespace Hb
open PySem L2
def szE : DE → Prop
  | .d (.lst ds) => ds.length ≤ 1000
  | _ => True
def rowOk (w : Int) : DE → Bool
  | .d (.lst ds) => decide ((ds.length : Int) = w) && ds.all wholeD
  | _ => false
def szT : TH → Prop
  | .one e => isE "list" e = false
  | .rows es => es.length ≤ 1000 ∧ ∀ e ∈ es, szE e
def tabOk (w : Int) : TH → Bool
  | .one _ => false
  | .rows es => decide (es.length ≤ 40) && es.all (rowOk w)
theorem isE_list {e : DE} (h : isE "list" e = true) : ∃ ds, e = .d (.lst ds) := by
  cases e with
  | nul => simp [isE] at h
  | d d => cases d <;> simp [isE, isD] at h; exact ⟨_, rfl⟩
theorem rowOk_no {w : Int} {e : DE} (h : ¬ isE "list" e = true) : rowOk w e = false := by
  cases e with
  | nul => rfl
  | d d => cases d <;> first | rfl | (simp [isE, isD] at h)
theorem take_all {α : Type} {f : α → Bool} {l : List α} {i : Nat} {x : α} (h : l[i]? = some x) : ((l.take (i + 1)).map f) = (l.take i).map f ++ [f x] := by
  rw [List.take_add_one, h, List.map_append]
  rfl
theorem all_map {α : Type} {f : α → Bool} {l : List α} : (l.map f).all id = l.all f := by rw [List.all_map]; rfl
theorem take_allP {α : Type} {f : α → Bool} {l : List α} {i : Nat} {x : α} (h : l[i]? = some x) (h1 : (l.take i).all f = true) (h2 : f x = true) : (l.take (i + 1)).all f = true := by
  rw [List.take_add_one, h, List.all_append, h1]
  simp [h2]
theorem all_not {α : Type} {f : α → Bool} {l : List α} {i : Nat} {x : α} (h : l[i]? = some x) (h2 : f x = false) : l.all f = false := by
  rw [List.all_eq_false]
  exact ⟨x, List.mem_of_getElem? h, by rw [h2]; exact Bool.false_ne_true⟩
theorem map_toPD : ∀ ds : List L2.D, toPDs ds = ds.map toPD
  | [] => rfl
  | d :: ds => by
    show toPD d :: toPDs ds = _
    rw [map_toPD ds]
    rfl
def GoodD (d : L2.D) : Prop := L2.Fin 220 2 (toPD d) ∧ szE (.d d)
def GoodE (e : DE) : Prop := (∃ ds : List L2.D, (e = .d (.lst ds) ∨ e = .d (.tup ds)) ∧ ds.length ≤ 41 ∧ ∀ d ∈ ds, GoodD d) ∨ (isE "list" e = false ∧ L2.Fin 220 2 (toPE e))
structure FineT (t : TH) : Prop where
  sz : szT t
  fin : L2.Fin 1000000 8 (toPT t)
  each : ∀ es, t = .rows es → ∀ e ∈ es, L2.Fin 1000000 8 (toPE e)
theorem fin_ds {ds : List L2.D} (hl : ds.length ≤ 41) (h : ∀ d ∈ ds, GoodD d) : L2.Fin 10000 4 (toPD (.lst ds)) ∧ L2.Fin 10000 4 (toPD (.tup ds)) := by
  have hp : ∀ p ∈ toPDs ds, L2.Fin 220 2 p := fun p hp => by
    rw [map_toPD] at hp
    obtain ⟨d, hd, rfl⟩ := List.mem_map.mp hp
    exact (h d hd).1
  have hl2 : (toPDs ds).length ≤ 41 := by rw [map_toPD, List.length_map]; exact hl
  exact ⟨(fin_list hp hl2).mono (by decide) (by decide), (fin_tuple hp hl2).mono (by decide) (by decide)⟩
theorem GoodE.fin {e : DE} (h : GoodE e) : L2.Fin 10000 4 (toPE e) := by
  rcases h with ⟨ds, rfl | rfl, hl, hd⟩ | ⟨_, h⟩
  · exact (fin_ds hl hd).1
  · exact (fin_ds hl hd).2
  · exact h.mono (by decide) (by decide)
theorem GoodE.sz {e : DE} (h : GoodE e) : szE e := by
  rcases h with ⟨ds, rfl | rfl, hl, hd⟩ | ⟨h, _⟩
  · show ds.length ≤ 1000
    omega
  · trivial
  · cases e with
    | nul => trivial
    | d d => cases d <;> first | trivial | (simp [isE, isD] at h)
theorem fine_rows {es : List DE} (hl : es.length ≤ 41) (h : ∀ e ∈ es, szE e ∧ L2.Fin 10000 4 (toPE e)) : FineT (.rows es) where
  sz := ⟨by omega, fun e he => (h e he).1⟩
  fin := (fin_list (B := 10000) (k := 4) (fun p hp => by obtain ⟨e, he, rfl⟩ := List.mem_map.mp hp; exact (h e he).2) (by rw [List.length_map]; exact hl)).mono (by decide) (by decide)
  each := fun es' e x hx => by cases e; exact (h x hx).2.mono (by decide) (by decide)
theorem GoodE.thing {K : PySem.W.Frag} {H : Hp} {v : V} {e : DE} (h : GoodE e) (hv : RepE K H v e) : ∃ t, RepT K H v t ∧ FineT t := by
  have one : isE "list" e = false → ∃ t, RepT K H v t ∧ FineT t := fun hn => ⟨.one e, hv, hn, h.fin.mono (by decide) (by decide), fun _ z => nomatch z⟩
  rcases h with ⟨ds, rfl | rfl, hl, hd⟩ | ⟨hn, _⟩
  · obtain ⟨a, vs, rfl, hq, hr⟩ := hv
    refine ⟨.rows (ds.map DE.d), ⟨a, vs, rfl, hq, RepsE.of hr⟩, fine_rows (by rw [List.length_map]; exact hl) fun e he => ?_⟩
    obtain ⟨d, hd1, rfl⟩ := List.mem_map.mp he
    exact ⟨(hd d hd1).2, (hd d hd1).1.mono (by decide) (by decide)⟩
  · exact one rfl
  · exact one hn
def tabE (h w : Nat) (f : Nat → Nat → Int) : List DE := (List.range h).map fun i => DE.d (dL w (f i))
theorem reps_mk {K : PySem.W.Frag} {H : Hp} : ∀ {ds : List L2.D} {vs : List V}, vs.length = ds.length → (∀ (i : Nat) v d, vs[i]? = some v → ds[i]? = some d → Rep K H v d) → Reps K H vs ds
  | [], vs, hl, _ => by
    cases vs with
    | nil => rfl
    | cons _ _ => simp at hl
  | d :: ds, vs, hl, h => by
    cases vs with
    | nil => simp at hl
    | cons v vs => exact ⟨v, vs, rfl, h 0 v d rfl rfl, reps_mk (by simpa using hl) fun i v d h1 h2 => h (i + 1) v d (by simpa using h1) (by simpa using h2)⟩
theorem reps_put {K : PySem.W.Frag} {H : Hp} {v : V} {d : L2.D} (hv : Rep K H v d) : ∀ {ds : List L2.D} {vs : List V}, Reps K H vs ds → ∀ i, Reps K H (vs.set i v) (ds.set i d)
  | [], vs, h, i => by
    cases (show vs = [] from h)
    rfl
  | d' :: ds, vs, h, 0 => by
    obtain ⟨v', q, rfl, h1, h2⟩ := h
    exact ⟨v, q, rfl, hv, h2⟩
  | d' :: ds, vs, h, i + 1 => by
    obtain ⟨v', q, rfl, h1, h2⟩ := h
    exact ⟨v', q.set i v, rfl, h1, reps_put hv h2 i⟩
section
variable (K : PySem.W.Frag)
def sp_L_spoilt : Sp := fun vs H Q _ => ∃ (u : V) (way at_ to : Int) (h w : Nat) (f : Nat → Nat → Int), vs = [u, .int way, .int at_, .int to] ∧ Rep K H u (dT h w f) ∧ h ≤ 41 ∧ w ≤ 40 ∧ (∀ i j, (f i j).natAbs < 2 ^ 200) ∧
  ∀ v t H', Same H H' → RepT K H' v t → FineT t → Q v H'
def sp_is_list_of_wholes : Sp := fun vs H Q _ => ∃ (v : V) (e : DE) (w : Int), vs = [v, .int w] ∧ RepE K H v e ∧ szE e ∧ ∀ H', Same H H' → Q (.bl (rowOk w e)) H'
def sp_is_table : Sp := fun vs H Q _ => ∃ (v : V) (t : TH) (w : Int), vs = [v, .int w] ∧ RepT K H v t ∧ szT t ∧ ∀ H', Same H H' → Q (.bl (tabOk w t)) H'
def sp_L_due_of : Sp := fun vs H Q _ => ∃ (v : V) (t : TH) (w : Int), vs = [v, .int w] ∧ RepT K H v t ∧ szT t ∧ ∀ H', Same H H' → Q (.bl (tabOk w t)) H'
end
end Hb

set_option linter.all false
set_option maxHeartbeats 4000000

namespace Hb
theorem inv1 {a e : Int} (h : a * e = 1) : e * a = 1 := by grind
theorem inv2 {a b c d e f g h : Int} (h1 : a * e + b * g = 1) (h2 : a * f + b * h = 0) (h3 : c * e + d * g = 0) (h4 : c * f + d * h = 1) :
    e * a + f * c = 1 ∧ e * b + f * d = 0 ∧ g * a + h * c = 0 ∧ g * b + h * d = 1 := by
  have hd : (a * d - b * c) * (e * h - f * g) = 1 := by grind
  have e1 : d = (a * d - b * c) * e := by grind
  have e2 : -b = (a * d - b * c) * f := by grind
  have e3 : -c = (a * d - b * c) * g := by grind
  have e4 : a = (a * d - b * c) * h := by grind
  refine ⟨?_, ?_, ?_, ?_⟩ <;> grind

theorem adj_row {a b c d e f g h i p q r D x y z s t u : Int} (h1 : p * a + q * d + r * g = D * s) (h2 : p * b + q * e + r * h = D * t) (h3 : p * c + q * f + r * i = D * u) {k l m : Int}
    (g1 : a * x + b * y + c * z = k) (g2 : d * x + e * y + f * z = l) (g3 : g * x + h * y + i * z = m) : D * (s * x + t * y + u * z) = p * k + q * l + r * m := by
  subst g1 g2 g3
  have : D * (s * x + t * y + u * z) = (D * s) * x + (D * t) * y + (D * u) * z := by grind
  rw [this, ← h1, ← h2, ← h3]
  grind
theorem det_mul (a b c d e f g h i a' b' c' d' e' f' g' h' i' : Int) :
    (a * (e * i - f * h) - b * (d * i - f * g) + c * (d * h - e * g)) * (a' * (e' * i' - f' * h') - b' * (d' * i' - f' * g') + c' * (d' * h' - e' * g')) =
    (a * a' + b * d' + c * g') * ((d * b' + e * e' + f * h') * (g * c' + h * f' + i * i') - (d * c' + e * f' + f * i') * (g * b' + h * e' + i * h'))
    - (a * b' + b * e' + c * h') * ((d * a' + e * d' + f * g') * (g * c' + h * f' + i * i') - (d * c' + e * f' + f * i') * (g * a' + h * d' + i * g'))
    + (a * c' + b * f' + c * i') * ((d * a' + e * d' + f * g') * (g * b' + h * e' + i * h') - (d * b' + e * e' + f * h') * (g * a' + h * d' + i * g')) := by grind
theorem inv3 {a b c d e f g h i a' b' c' d' e' f' g' h' i' : Int} (q00 : a * a' + b * d' + c * g' = 1) (q01 : a * b' + b * e' + c * h' = 0) (q02 : a * c' + b * f' + c * i' = 0) (q10 : d * a' + e * d' + f * g' = 0) (q11 : d * b' + e * e' + f * h' = 1) (q12 : d * c' + e * f' + f * i' = 0) (q20 : g * a' + h * d' + i * g' = 0) (q21 : g * b' + h * e' + i * h' = 0) (q22 : g * c' + h * f' + i * i' = 1) :
    (a' * a + b' * d + c' * g = 1) ∧ (a' * b + b' * e + c' * h = 0) ∧ (a' * c + b' * f + c' * i = 0) ∧ (d' * a + e' * d + f' * g = 0) ∧ (d' * b + e' * e + f' * h = 1) ∧ (d' * c + e' * f + f' * i = 0) ∧ (g' * a + h' * d + i' * g = 0) ∧ (g' * b + h' * e + i' * h = 0) ∧ (g' * c + h' * f + i' * i = 1) := by
  have hd : (a * (e * i - f * h) - b * (d * i - f * g) + c * (d * h - e * g)) * (a' * (e' * i' - f' * h') - b' * (d' * i' - f' * g') + c' * (d' * h' - e' * g')) = 1 := by
    rw [det_mul, q00, q01, q02, q10, q11, q12, q20, q21, q22]
    decide
  have e00 : (a * (e * i - f * h) - b * (d * i - f * g) + c * (d * h - e * g)) * a' = (e * i - f * h) := by
    have := adj_row (s := 1) (t := 0) (u := 0) (D := (a * (e * i - f * h) - b * (d * i - f * g) + c * (d * h - e * g))) (p := (e * i - f * h)) (q := (c * h - b * i)) (r := (b * f - c * e)) (by grind) (by grind) (by grind) q00 q10 q20
    grind
  have e01 : (a * (e * i - f * h) - b * (d * i - f * g) + c * (d * h - e * g)) * b' = (c * h - b * i) := by
    have := adj_row (s := 1) (t := 0) (u := 0) (D := (a * (e * i - f * h) - b * (d * i - f * g) + c * (d * h - e * g))) (p := (e * i - f * h)) (q := (c * h - b * i)) (r := (b * f - c * e)) (by grind) (by grind) (by grind) q01 q11 q21
    grind
  have e02 : (a * (e * i - f * h) - b * (d * i - f * g) + c * (d * h - e * g)) * c' = (b * f - c * e) := by
    have := adj_row (s := 1) (t := 0) (u := 0) (D := (a * (e * i - f * h) - b * (d * i - f * g) + c * (d * h - e * g))) (p := (e * i - f * h)) (q := (c * h - b * i)) (r := (b * f - c * e)) (by grind) (by grind) (by grind) q02 q12 q22
    grind
  have e10 : (a * (e * i - f * h) - b * (d * i - f * g) + c * (d * h - e * g)) * d' = (f * g - d * i) := by
    have := adj_row (s := 0) (t := 1) (u := 0) (D := (a * (e * i - f * h) - b * (d * i - f * g) + c * (d * h - e * g))) (p := (f * g - d * i)) (q := (a * i - c * g)) (r := (c * d - a * f)) (by grind) (by grind) (by grind) q00 q10 q20
    grind
  have e11 : (a * (e * i - f * h) - b * (d * i - f * g) + c * (d * h - e * g)) * e' = (a * i - c * g) := by
    have := adj_row (s := 0) (t := 1) (u := 0) (D := (a * (e * i - f * h) - b * (d * i - f * g) + c * (d * h - e * g))) (p := (f * g - d * i)) (q := (a * i - c * g)) (r := (c * d - a * f)) (by grind) (by grind) (by grind) q01 q11 q21
    grind
  have e12 : (a * (e * i - f * h) - b * (d * i - f * g) + c * (d * h - e * g)) * f' = (c * d - a * f) := by
    have := adj_row (s := 0) (t := 1) (u := 0) (D := (a * (e * i - f * h) - b * (d * i - f * g) + c * (d * h - e * g))) (p := (f * g - d * i)) (q := (a * i - c * g)) (r := (c * d - a * f)) (by grind) (by grind) (by grind) q02 q12 q22
    grind
  have e20 : (a * (e * i - f * h) - b * (d * i - f * g) + c * (d * h - e * g)) * g' = (d * h - e * g) := by
    have := adj_row (s := 0) (t := 0) (u := 1) (D := (a * (e * i - f * h) - b * (d * i - f * g) + c * (d * h - e * g))) (p := (d * h - e * g)) (q := (b * g - a * h)) (r := (a * e - b * d)) (by grind) (by grind) (by grind) q00 q10 q20
    grind
  have e21 : (a * (e * i - f * h) - b * (d * i - f * g) + c * (d * h - e * g)) * h' = (b * g - a * h) := by
    have := adj_row (s := 0) (t := 0) (u := 1) (D := (a * (e * i - f * h) - b * (d * i - f * g) + c * (d * h - e * g))) (p := (d * h - e * g)) (q := (b * g - a * h)) (r := (a * e - b * d)) (by grind) (by grind) (by grind) q01 q11 q21
    grind
  have e22 : (a * (e * i - f * h) - b * (d * i - f * g) + c * (d * h - e * g)) * i' = (a * e - b * d) := by
    have := adj_row (s := 0) (t := 0) (u := 1) (D := (a * (e * i - f * h) - b * (d * i - f * g) + c * (d * h - e * g))) (p := (d * h - e * g)) (q := (b * g - a * h)) (r := (a * e - b * d)) (by grind) (by grind) (by grind) q02 q12 q22
    grind
  generalize hD : (a * (e * i - f * h) - b * (d * i - f * g) + c * (d * h - e * g)) = D at hd e00 e01 e02 e10 e11 e12 e20 e21 e22
  generalize (a' * (e' * i' - f' * h') - b' * (d' * i' - f' * g') + c' * (d' * h' - e' * g')) = E at hd
  have can : ∀ x y : Int, D * x = D * y → x = y := fun x y h => by
    have h2 : E * (D * x) = E * (D * y) := by rw [h]
    have h3 : ∀ z : Int, E * (D * z) = z := fun z => by rw [← Int.mul_assoc, Int.mul_comm E D, hd, Int.one_mul]
    rwa [h3, h3] at h2
  refine ⟨?_, ?_, ?_, ?_, ?_, ?_, ?_, ?_, ?_⟩
  · refine can _ _ ?_
    have : D * (a' * a + b' * d + c' * g) = (D * a') * a + (D * b') * d + (D * c') * g := by grind
    rw [this, e00, e01, e02]
    rw [← hD]
    grind
  · refine can _ _ ?_
    have : D * (a' * b + b' * e + c' * h) = (D * a') * b + (D * b') * e + (D * c') * h := by grind
    rw [this, e00, e01, e02]
    rw [← hD]
    grind
  · refine can _ _ ?_
    have : D * (a' * c + b' * f + c' * i) = (D * a') * c + (D * b') * f + (D * c') * i := by grind
    rw [this, e00, e01, e02]
    rw [← hD]
    grind
  · refine can _ _ ?_
    have : D * (d' * a + e' * d + f' * g) = (D * d') * a + (D * e') * d + (D * f') * g := by grind
    rw [this, e10, e11, e12]
    rw [← hD]
    grind
  · refine can _ _ ?_
    have : D * (d' * b + e' * e + f' * h) = (D * d') * b + (D * e') * e + (D * f') * h := by grind
    rw [this, e10, e11, e12]
    rw [← hD]
    grind
  · refine can _ _ ?_
    have : D * (d' * c + e' * f + f' * i) = (D * d') * c + (D * e') * f + (D * f') * i := by grind
    rw [this, e10, e11, e12]
    rw [← hD]
    grind
  · refine can _ _ ?_
    have : D * (g' * a + h' * d + i' * g) = (D * g') * a + (D * h') * d + (D * i') * g := by grind
    rw [this, e20, e21, e22]
    rw [← hD]
    grind
  · refine can _ _ ?_
    have : D * (g' * b + h' * e + i' * h) = (D * g') * b + (D * h') * e + (D * i') * h := by grind
    rw [this, e20, e21, e22]
    rw [← hD]
    grind
  · refine can _ _ ?_
    have : D * (g' * c + h' * f + i' * i) = (D * g') * c + (D * h') * f + (D * i') * i := by grind
    rw [this, e20, e21, e22]
    rw [← hD]
    grind
theorem inv_both {n : Nat} (hn : n ≤ 3) {A B : Nat → Nat → Int} (h : ∀ i j, i < n → j < n → sumN (fun m => A i m * B m j) n = if i = j then 1 else 0) :
    ∀ i j, i < n → j < n → sumN (fun m => B i m * A m j) n = if i = j then 1 else 0 := by
  match n, hn, h with
  | 0, _, _ => intro i j hi; exact absurd hi (Nat.not_lt_zero _)
  | 1, _, h =>
    have q := h 0 0 (by decide) (by decide)
    intro i j hi hj
    obtain rfl : i = 0 := by omega
    obtain rfl : j = 0 := by omega
    simp only [sumN, Int.zero_add] at q ⊢
    exact inv1 q
  | 2, _, h =>
    have q00 := h 0 0 (by decide) (by decide)
    have q01 := h 0 1 (by decide) (by decide)
    have q10 := h 1 0 (by decide) (by decide)
    have q11 := h 1 1 (by decide) (by decide)
    simp only [sumN, Int.zero_add] at q00 q01 q10 q11 ⊢
    obtain ⟨r1, r2, r3, r4⟩ := inv2 q00 (by simpa using q01) (by simpa using q10) (by simpa using q11)
    intro i j hi hj
    have ei : i = 0 ∨ i = 1 := by omega
    have ej : j = 0 ∨ j = 1 := by omega
    rcases ei with rfl | rfl <;> rcases ej with rfl | rfl <;> simp [r1, r2, r3, r4]
  | 3, _, h =>
    have q00 := h 0 0 (by decide) (by decide)
    have q01 := h 0 1 (by decide) (by decide)
    have q02 := h 0 2 (by decide) (by decide)
    have q10 := h 1 0 (by decide) (by decide)
    have q11 := h 1 1 (by decide) (by decide)
    have q12 := h 1 2 (by decide) (by decide)
    have q20 := h 2 0 (by decide) (by decide)
    have q21 := h 2 1 (by decide) (by decide)
    have q22 := h 2 2 (by decide) (by decide)
    simp only [sumN, Int.zero_add] at q00 q01 q02 q10 q11 q12 q20 q21 q22 ⊢
    obtain ⟨r0, r1, r2, r3, r4, r5, r6, r7, r8⟩ := inv3 (by simpa using q00) (by simpa using q01) (by simpa using q02) (by simpa using q10) (by simpa using q11) (by simpa using q12) (by simpa using q20) (by simpa using q21) (by simpa using q22)
    intro i j hi hj
    have ei : i = 0 ∨ i = 1 ∨ i = 2 := by omega
    have ej : j = 0 ∨ j = 1 ∨ j = 2 := by omega
    rcases ei with rfl | rfl | rfl <;> rcases ej with rfl | rfl | rfl <;> simp [r0, r1, r2, r3, r4, r5, r6, r7, r8]
end Hb

set_option Elab.async false
set_option linter.all false
set_option maxRecDepth 100000
set_option maxHeartbeats 4000000
namespace L2
open PySem PySem.Spec PyProof.Rows

theorem call_isiP {X : Cx} {K : PySem.W.Frag} (hK : X.K = K := by rfl) : CallR X (.builtin "isinstance") (fun xs H Q => ∃ x n, xs = [x, .ty n] ∧ (n = "int" ∨ n = "bool" ∨ n = "str" ∨ n = "tuple" ∨ n = "list" ∨ n = "dict") ∧
    ((∃ t, RepT K H x t ∧ Q (.bl (isT n t)) H) ∨ ∃ a vs, x = .ref a ∧ H a = some (.tup vs) ∧ Q (.bl (n == "tuple")) H)) := by
  intro pins s σ H xs us Q I r h
  obtain ⟨x, n, e, hn, h⟩ := h
  rcases h with ⟨t, hx, q⟩ | ⟨a, vs, rfl, ha, q⟩
  · exact call_isiT hK pins s σ H xs us Q I r ⟨x, n, t, e, hn, hx, q⟩
  · subst e
    obtain ⟨u, v, rfl, rx, rt⟩ := vals2 r
    cases rt
    cases rx
    obtain ⟨_, its, _, o, ho, hc, _⟩ := (show ObjOk X.prog X.w H s.heap a (.tup vs) from I.hok a _ ha)
    rcases hn with rfl | rfl | rfl | rfl | rfl | rfl
    · exact PySem.IsiPair.tuple_int ho hc ⟨.bl false, H, I.tok _, rfl, q⟩
    · exact PySem.IsiPair.tuple_bool ho hc ⟨.bl false, H, I.tok _, rfl, q⟩
    · exact PySem.IsiPair.tuple_str ho hc ⟨.bl false, H, I.tok _, rfl, q⟩
    · exact PySem.IsiPair.tuple_tuple ho hc ⟨.bl true, H, I, rfl, q⟩
    · exact PySem.IsiPair.tuple_list ho hc ⟨.bl false, H, I.tok _, rfl, q⟩
    · exact PySem.IsiPair.tuple_dict ho hc ⟨.bl false, H, I.tok _, rfl, q⟩

section
variable {prog : Program} {w : World} {A : Around} {E : Value → Shared → Prop}
theorem draw_lst {it l : Addr} {xs : Array Value} (nli : l ≠ it) : ∀ (n i : Nat) (s : Shared) (Q : List Value → Shared → Prop), s.heap.IsListIter it l i → s.heap.IsList l xs → i + n ≤ xs.size →
    (∀ h', h'.IsListIter it l (i + n) → Heap.SameBut it s.heap h' → Q ((xs.toList.drop i).take n) { s with heap := h' }) → wpAny (model prog w) A (draw (.ref it) n) Q E s
  | 0, i, s, Q, hit, _, _, hQ => (show wpAny _ _ (pure []) Q E s from wpAny_pure (by simpa using hQ s.heap hit (Heap.SameBut.refl ..)))
  | n + 1, i, s, Q, hit, hl, hle, hQ => by
    have hi : i < xs.size := by omega
    show wpAny _ _ (pyNext (.ref it) >>= _) Q E s
    refine wpAny_bind (wpAny_pyNext_list_item hit hl (x := xs[i]) (by simp [hi]) fun g1 q1 k1 => ?_)
    have hl1 : g1.IsList l xs := let ⟨o, ho, r⟩ := hl; ⟨o, (k1.2 l nli).trans ho, r⟩
    refine wpAny_bind (wpAny_holding (draw_lst nli n (i + 1) { s with heap := g1 } _ q1 hl1 (by omega) fun g2 q2 k2 => wpAny_pure ?_))
    have e1 : xs.toList.drop i = xs[i] :: xs.toList.drop (i + 1) := by simp [List.drop_eq_getElem_cons, hi]
    have q := hQ g2 (by rw [show i + (n + 1) = i + 1 + n by omega]; exact q2) (k1.trans k2)
    rw [e1, List.take_succ_cons] at q
    exact q
theorem unpack_lst {s : Shared} {l : Addr} {xs : Array Value} {ts : List (Bool × (Value → Sem Unit))} {Q : Unit → Shared → Prop} (hh : A.handled = none) (hl : s.heap.IsList l xs) (hn : ts.length = xs.size) (hst : ts.findIdx? (·.1) = none)
    (h : ∀ h', Heap.ExtBut s.heap.objs.size s.heap h' → wpAny (model prog w) A (assignInOrder (ts.map (·.2)) xs.toList) Q E { s with heap := h' }) : wpAny (model prog w) A (unpack (.ref l) ts) Q E s := by
  have hT : s.TypeIs (.ref l) "list" := let ⟨o, ho, hc, _⟩ := hl; ⟨o, ho, hc⟩
  have nl : l ≠ s.heap.objs.size := let ⟨o, ho, _⟩ := hl; Nat.ne_of_lt (Heap.lt_size ho)
  unfold unpack
  rw [hn, hst]
  refine wpAny_bind (wpAny_holding ?_)
  unfold unpackItems
  refine wpAny_bind ?_
  unfold notIterableAtAll
  refine wpAny_bind (wpAny_specialOf hT PySem.F.slot_list_iter.lookup (wpAny_pure ?_))
  simp only [Bool.false_eq_true, if_false]
  refine wpAny_bind (wpAny_holding (wpAny_pyIter_list hl ?_))
  have hl1 : ∀ o, (s.heap.push o).IsList l xs := fun o => let ⟨ob, ho, r⟩ := hl; ⟨ob, Heap.get?_push_of_some _ ho, r⟩
  refine wpAny_bind (wpAny_holding (draw_lst nl xs.size 0 _ _ ⟨_, Heap.get?_push_size _ rfl, rfl, rfl⟩ (hl1 _) (by omega) fun g1 q1 k1 => ?_))
  rw [show List.take xs.size (List.drop 0 xs.toList) = xs.toList by rw [List.drop_zero]; exact List.take_of_length_le (by simp), if_neg (by simp)]
  have hl2 : g1.IsList l xs := let ⟨ob, ho, r⟩ := hl1 _; ⟨ob, (k1.2 l nl).trans ho, r⟩
  refine wpAny_bind (wpAny_holding (wpAny_pyNext_list_end hh q1 hl2 (by simp) fun g2 e2 => ?_))
  simp only [Option.isSome_none, Bool.false_eq_true, if_false]
  exact wpAny_pure (h g2 fun b o n e => e2 b o n (k1.extBut b o n (Heap.get?_push_of_some _ e)))
end

def gLst (K : PySem.W.Frag) (n : Nat) (t : TGs) : TG := fun v σ H Q => ∃ a xs, v = .ref a ∧ SqL K H a xs ∧ xs.length = n ∧ t xs σ H Q
theorem kpg_lst {X : Cx} {K : PySem.W.Frag} {es : List Expr} {k : Nat} {t : TGs} {n : Nat} {pos : Pos} (hc : X.calm = true) (h : PGs X es t) (hK : X.K = K := by rfl)
    (hn : (assignEach es X.env).length = n := by rfl) (hst : (assignEach es X.env).findIdx? (·.1) = none := by rfl) : PG X (.Tuple es k pos) (gLst K n t) := by
  subst hK
  intro pins s σ H v u Q I r hw
  obtain ⟨a, xs, e1, hq, hl, hw⟩ := hw
  subst e1
  cases r
  obtain ⟨its, rv, ht, _⟩ := I.list hq
  rw [assign_Tuple]
  refine wpAny_bind (wpAny_standAt (unpack_lst (I.ok.hd hc) ht.isList (by simp [hn, ← hl, rv.length]) hst fun h' hx => ?_))
  have I1 : Inv X pins σ H { s with heap := h' } := I.kept (t' := s.toks) fun b o e => hx b o (Nat.ne_of_lt (Heap.lt_size e)) e
  exact h pins _ σ H xs _ Q I1 (by simpa using rv) hw
end L2

set_option Elab.async false
set_option linter.all false
set_option maxRecDepth 100000
set_option maxHeartbeats 4000000

namespace Hb
open PySem L2
def wholeE : DE → Bool
  | .d d => wholeD d
  | .nul => false

def rowT (w : Int) : TH → Bool
  | .one e => rowOk w e
  | .rows es => decide ((es.length : Int) = w) && es.all wholeE
def szR : TH → Prop
  | .one e => szE e
  | .rows es => es.length ≤ 1000

def sqT (n : Int) : TH → Bool
  | .one _ => false
  | .rows es => decide ((es.length : Int) = n) && es.all (rowOk n)
theorem all_wholeE (ds : List L2.D) : (ds.map DE.d).all wholeE = ds.all wholeD := by rw [List.all_map]; rfl

theorem list_alt {K : PySem.W.Frag} {H : Hp} {v : V} {t : TH} (w : Int) (hv : RepT K H v t) (hz : szR t) :
    (∃ (a : Addr) (vs : List V) (es : List DE), v = .ref a ∧ SqL K H a vs ∧ RepsE K H vs es ∧ es.length ≤ 1000 ∧ rowT w t = (decide ((es.length : Int) = w) && es.all wholeE) ∧ isT "list" t = true) ∨ (isT "list" t = false ∧ rowT w t = false) := by
  cases t with
  | rows es =>
    obtain ⟨a, vs, rfl, hq, hr⟩ := hv
    exact .inl ⟨a, vs, es, rfl, hq, hr, hz, rfl, rfl⟩
  | one e =>
    cases he : isE "list" e with
    | true =>
      obtain ⟨ds, rfl⟩ := isE_list he
      obtain ⟨a, vs, rfl, hq, hr⟩ := hv
      refine .inl ⟨a, vs, ds.map DE.d, rfl, hq, RepsE.of hr, by rw [List.length_map]; exact hz, ?_, he⟩
      rw [all_wholeE, List.length_map]
      rfl
    | false => exact .inr ⟨he, rowOk_no (by rw [he]; decide)⟩
def intE : DE → Int
  | .d d => toI d
  | .nul => 0
def intsE (es : List DE) : List Int := es.map intE

def tabF : TH → Nat → Nat → Int
  | .rows es, i, j => match es.getD i .nul with
    | .d (.lst ds) => (ds.map toI).getD j 0
    | _ => 0
  | _, _, _ => 0
theorem whole_toI {d : L2.D} (h : wholeD d = true) : d = .int (toI d) := by
  cases d with
  | int i => rfl
  | _ => exact nomatch (show false = true from h)
theorem reps_ints {K : PySem.W.Frag} {H : Hp} : ∀ {vs : List V} {es : List DE}, RepsE K H vs es → es.all wholeE = true → vs = (intsE es).map V.int
  | [], [], _, _ => rfl
  | [], _ :: _, h, _ => h.elim
  | _ :: _, [], h, _ => h.elim
  | v :: vs, e :: es, h, ha => by
    rw [List.all_cons, Bool.and_eq_true] at ha
    have ih := reps_ints h.2 ha.2
    have hv : v = .int (intE e) := by
      cases e with
      | nul => exact nomatch (show false = true from ha.1)
      | d d =>
        have h1 : Rep K H v d := h.1
        rw [whole_toI ha.1] at h1
        exact h1
    rw [hv, ih]
    rfl
theorem row_nums {ds : List L2.D} (h : ds.all wholeD = true) : ds = nums (ds.map toI) := by
  induction ds with
  | nil => rfl
  | cons d ds ih =>
    rw [List.all_cons, Bool.and_eq_true] at h
    show d :: ds = .int (toI d) :: nums (ds.map toI)
    rw [← whole_toI h.1, ← ih h.2]
theorem rowOk_dL {n : Nat} {e : DE} (h : rowOk (n : Int) e = true) : ∃ ds, e = .d (.lst ds) ∧ ds.length = n ∧ .lst ds = dL n (fun j => (ds.map toI).getD j 0) := by
  cases e with
  | nul => exact nomatch (show false = true from h)
  | d d =>
    cases d with
    | lst ds =>
      have h' : (decide ((ds.length : Int) = (n : Int)) && ds.all wholeD) = true := h
      rw [Bool.and_eq_true, decide_eq_true_eq] at h'
      have hl : ds.length = n := by omega
      refine ⟨ds, rfl, hl, ?_⟩
      unfold dL
      have e1 := lsI_of (ds.map toI)
      rw [List.length_map, hl] at e1
      rw [e1, ← row_nums h'.2]
    | _ => exact nomatch (show false = true from h)
theorem sq_rep {K : PySem.W.Frag} {H : Hp} {v : V} {t : TH} {n : Nat} (hv : RepT K H v t) (h : sqT (n : Int) t = true) : Rep K H v (dT n n (tabF t)) := by
  cases t with
  | one e => exact nomatch (show false = true from h)
  | rows es =>
    have h' : (decide ((es.length : Int) = (n : Int)) && es.all (rowOk (n : Int))) = true := h
    rw [Bool.and_eq_true, decide_eq_true_eq] at h'
    have hl : es.length = n := by omega
    obtain ⟨a, vs, rfl, hq, hr⟩ := hv
    have hvl := hr.len
    refine ⟨a, vs, rfl, hq, reps_mk (by rw [List.length_map, List.length_range]; omega) fun i u d hu hd => ?_⟩
    obtain ⟨e, he, hue⟩ := hr.get hu
    have hi : i < n := by have := (List.getElem?_eq_some_iff.mp he).1; omega
    obtain ⟨ds, rfl, h1, h2⟩ := rowOk_dL (List.all_eq_true.mp h'.2 e (List.mem_of_getElem? he))
    have hd' : d = dL n (tabF (.rows es) i) := by
      rw [List.getElem?_map, List.getElem?_range hi] at hd
      simpa using hd.symm
    have ht : tabF (.rows es) i = fun j => (ds.map toI).getD j 0 := by
      funext j
      show (match es.getD i .nul with | .d (.lst ds) => (ds.map toI).getD j 0 | _ => 0) = _
      rw [List.getD_eq_getElem?_getD, he]
      rfl
    rw [hd', ht, ← h2]
    exact hue
theorem eqDs_rows (w : Nat) (f g : Nat → Nat → Int) : ∀ l : List Nat, eqDs (l.map fun i => dL w (f i)) (l.map fun i => dL w (g i)) = l.all fun i => decide (lsI w (f i) = lsI w (g i))
  | [] => rfl
  | i :: l => by
    show (eqD (dL w (f i)) (dL w (g i)) && eqDs (l.map fun i => dL w (f i)) (l.map fun i => dL w (g i))) = _
    rw [eqDs_rows w f g l, List.all_cons]
    congr 1
    show eqDs (nums (lsI w (f i))) (nums (lsI w (g i))) = _
    exact eqDs_nums _ _

def eqTab (h w : Nat) (f g : Nat → Nat → Int) : Bool := (List.range h).all fun i => decide (lsI w (f i) = lsI w (g i))
theorem eqD_dT (h w : Nat) (f g : Nat → Nat → Int) : eqD (dT h w f) (dT h w g) = eqTab h w f g := eqDs_rows w f g (List.range h)
theorem eqTab_iff {h w : Nat} {f g : Nat → Nat → Int} : eqTab h w f g = true ↔ ∀ i j, i < h → j < w → f i j = g i j := by
  unfold eqTab
  rw [List.all_eq_true]
  constructor
  · intro q i j hi hj
    have e := of_decide_eq_true (q i (List.mem_range.mpr hi))
    have e2 := congrArg (fun l => l[j]?) e
    simp only [lsI_get hj] at e2
    exact Option.some.inj e2
  · intro q i hi
    exact decide_eq_true (lsI_congr fun j hj => q i j (List.mem_range.mp hi) hj)
def prodF (n : Nat) (f g : Nat → Nat → Int) : Nat → Nat → Int := fun i j => sumN (fun k => f i k * g k j) n
def oneF : Nat → Nat → Int := fun i j => if j = i then 1 else 0

def turnT (n : Nat) (t u : TH) : Bool := sqT (n : Int) t && sqT (n : Int) u && eqTab n n (prodF n (tabF t) (tabF u)) oneF
theorem turn_both {n : Nat} (hn : n ≤ 3) {f g : Nat → Nat → Int} (h : eqTab n n (prodF n f g) oneF = true) : eqTab n n (prodF n g f) oneF = true := by
  rw [eqTab_iff] at h ⊢
  intro i j hi hj
  have := inv_both hn (A := f) (B := g) (fun i j hi hj => by
    have e := h i j hi hj
    show prodF n f g i j = _
    rw [e]
    unfold oneF
    by_cases z : j = i
    · rw [if_pos z, if_pos z.symm]
    · rw [if_neg z, if_neg (Ne.symm z)]) i j hi hj
  show prodF n g f i j = _
  unfold prodF oneF
  rw [this]
  by_cases z : j = i
  · rw [if_pos z, if_pos z.symm]
  · rw [if_neg z, if_neg (Ne.symm z)]
theorem both_eq {n : Nat} (hn : n ≤ 3) (f g : Nat → Nat → Int) : (eqTab n n (prodF n f g) oneF && eqTab n n (prodF n g f) oneF) = eqTab n n (prodF n f g) oneF := by
  cases h : eqTab n n (prodF n f g) oneF with
  | false => rfl
  | true => rw [turn_both hn h]; rfl

def bdT (B : Nat) (t : TH) : Prop := ∀ i j, (tabF t i j).natAbs < 2 ^ B
def numsOk (m : Int) : TH → Bool
  | .one _ => false
  | .rows es => decide ((es.length : Int) ≤ m) && es.all wholeE && (intsE es).all (fun x => decide (0 < x)) && ((intsE es).zip ((intsE es).drop 1)).all fun p => decide (p.2 % p.1 = 0)
theorem numsOk_rows (m : Int) (es : List DE) : numsOk m (.rows es) = (decide ((es.length : Int) ≤ m) && es.all wholeE && (intsE es).all (fun x => decide (0 < x)) && ((intsE es).zip ((intsE es).drop 1)).all fun p => decide (p.2 % p.1 = 0)) := rfl

inductive PP where
  | data (t : TH) | tup (ts : List TH)
def RepsT (K : PySem.W.Frag) (H : Hp) : List V → List TH → Prop
  | [], [] => True
  | v :: vs, t :: ts => RepT K H v t ∧ RepsT K H vs ts
  | _, _ => False
def RepP (K : PySem.W.Frag) (H : Hp) (v : V) : PP → Prop
  | .data t => RepT K H v t ∧ isT "tuple" t = false
  | .tup ts => ∃ a vs, v = .ref a ∧ H a = some (.tup vs) ∧ RepsT K H vs ts
theorem RepsT.same {K : PySem.W.Frag} {H H' : Hp} (s : Same H H') : ∀ {vs : List V} {ts : List TH}, RepsT K H vs ts → RepsT K H' vs ts
  | [], [], _ => True.intro
  | [], _ :: _, h => h.elim
  | _ :: _, [], h => h.elim
  | _ :: _, _ :: _, h => ⟨RepT.same s h.1, RepsT.same s h.2⟩
theorem RepsT.len {K : PySem.W.Frag} {H : Hp} : ∀ {vs : List V} {ts : List TH}, RepsT K H vs ts → vs.length = ts.length
  | [], [], _ => rfl
  | [], _ :: _, h => h.elim
  | _ :: _, [], h => h.elim
  | _ :: vs, _ :: ts, h => congrArg (· + 1) (RepsT.len h.2)
def okP (B : Nat) : PP → Prop
  | .data _ => True
  | .tup ts => ts.length ≤ 1000 ∧ ∀ t ∈ ts, szT t ∧ bdT B t
def diagF (ns : List Int) : Nat → Nat → Int := fun i j => if j = i then ns.getD i 0 else 0
def intsT : TH → List Int
  | .one _ => []
  | .rows es => intsE es

def lookP (h w : Nat) (f : Nat → Nat → Int) : PP → Bool
  | .tup [t0, t1, t2, t3, t4] => numsOk (if (w : Int) < (h : Int) then (w : Int) else (h : Int)) t0 && turnT h t1 t2 && turnT w t3 t4 && eqTab h w (prodF w (prodF h (tabF t1) f) (tabF t3)) (diagF (intsT t0))
  | _ => false
theorem lookP5 (h w : Nat) (f : Nat → Nat → Int) (t0 t1 t2 t3 t4 : TH) : lookP h w f (.tup [t0, t1, t2, t3, t4]) = (numsOk (if (w : Int) < (h : Int) then (w : Int) else (h : Int)) t0 && turnT h t1 t2 && turnT w t3 t4 && eqTab h w (prodF w (prodF h (tabF t1) f) (tabF t3)) (diagF (intsT t0))) := rfl
theorem bd_prod {B C n : Nat} {f g : Nat → Nat → Int} (hf : ∀ i j, (f i j).natAbs < 2 ^ B) (hg : ∀ i j, (g i j).natAbs < 2 ^ C) (i j : Nat) : (prodF n f g i j).natAbs < 2 ^ (B + C + n) := bd_sum fun k _ => bd_mul (hf i k) (hg k j)
theorem nums_seq {K : PySem.W.Frag} {H : Hp} {v : V} {t : TH} {m : Int} (hv : RepT K H v t) (h : numsOk m t = true) : ∃ a, v = .ref a ∧ SqL K H a ((intsT t).map V.int) := by
  cases t with
  | one e => exact nomatch (show false = true from h)
  | rows es =>
    rw [numsOk_rows] at h
    simp only [Bool.and_eq_true] at h
    obtain ⟨a, vs, rfl, hq, hr⟩ := hv
    have e := reps_ints hr h.1.1.2
    subst e
    exact ⟨a, rfl, hq⟩

def goN : Int → List DE → Bool
  | _, [] => true
  | l, e :: r => wholeE e && (decide (1 ≤ intE e) && (decide (intE e % l = 0) && goN (intE e) r))
def headN (l : Int) : List Int → Bool
  | [] => true
  | x :: _ => decide (x % l = 0)
def zipN (ns : List Int) : Bool := (ns.zip (ns.drop 1)).all fun p => decide (p.2 % p.1 = 0)
theorem zipN_cons (x : Int) (ns : List Int) : zipN (x :: ns) = (headN x ns && zipN ns) := by
  cases ns with
  | nil => rfl
  | cons y r => rfl
theorem goN_eq : ∀ (es : List DE) (l : Int), goN l es = (es.all wholeE && ((intsE es).all (fun x => decide (0 < x)) && (headN l (intsE es) && zipN (intsE es))))
  | [], _ => rfl
  | e :: r, l => by
    have ih := goN_eq r (intE e)
    show (wholeE e && (decide (1 ≤ intE e) && (decide (intE e % l = 0) && goN (intE e) r))) = ((wholeE e && r.all wholeE) && ((decide (0 < intE e) && (intsE r).all (fun x => decide (0 < x))) && (decide (intE e % l = 0) && zipN (intE e :: intsE r))))
    rw [ih, zipN_cons]
    have e1 : decide (1 ≤ intE e) = decide (0 < intE e) := rfl
    rw [e1]
    cases wholeE e <;> cases decide (0 < intE e) <;> cases decide (intE e % l = 0) <;> simp <;> cases r.all wholeE <;> simp
theorem numsOk_go (m : Int) (es : List DE) : numsOk m (.rows es) = (decide ((es.length : Int) ≤ m) && goN 1 es) := by
  rw [numsOk_rows, goN_eq]
  have e1 : headN 1 (intsE es) = true := by
    cases intsE es with
    | nil => rfl
    | cons x r => exact decide_eq_true (Int.emod_one x)
  rw [e1]
  show (_ && zipN (intsE es)) = _
  simp only [Bool.true_and, Bool.and_assoc]
theorem ixN_lt {n i : Nat} (h : i < n) : ixN n (i : Int) = some i := by
  unfold ixN
  simp
  omega

theorem Rows.put {H H1 G : Hp} {D E : Addr} {as : List Addr} {w i : Nat} {f g : Nat → Nat → Int} (R : Rows H H1 D as w f) (hi : i < as.length) (hE : H1 E = none) (s : Same H1 G) (hG : G E = some (.lst (VI w (g i)))) (hg : ∀ a, a ≠ i → f a = g a) :
    Rows H (upd G D (.lst ((as.map V.ref).set i (.ref E)))) D (as.set i E) w g := by
  have nED : E ≠ D := fun z => by rw [z, R.at] at hE; cases hE
  refine ⟨(R.same.trans s).turn R.free, R.free, by rw [upd_same, List.map_set], fun j a e => ?_⟩
  by_cases z : i = j
  · subst z
    rw [List.getElem?_set_self hi] at e
    cases e
    exact ⟨R.same.free hE, nED, by rw [upd_ne nED]; exact hG⟩
  · rw [List.getElem?_set_ne z] at e
    obtain ⟨q1, q2, q3⟩ := R.row j a e
    exact ⟨q1, q2, by rw [upd_ne q2, ← hg j (Ne.symm z)]; exact s _ _ q3⟩

def DrawAt (K : PySem.W.Frag) (H : Hp) (v : V) (h w B : Nat) : Prop := ∃ (a : Addr) (v0 v1 v2 v3 v4 v5 : V) (ns : List Int) (f1 f2 f3 f4 f5 : Nat → Nat → Int), v = .ref a ∧ SqL K H a [v0, v1, v2, v3, v4, v5] ∧
  Rep K H v0 (.lst (nums ns)) ∧ ns.length ≤ 3 ∧ (∀ x ∈ ns, x.natAbs < 2 ^ B) ∧ Rep K H v1 (dT h h f1) ∧ Rep K H v2 (dT h h f2) ∧ Rep K H v3 (dT w w f3) ∧ Rep K H v4 (dT w w f4) ∧ Rep K H v5 (dT h w f5) ∧
  (∀ i j, (f1 i j).natAbs < 2 ^ B) ∧ (∀ i j, (f2 i j).natAbs < 2 ^ B) ∧ (∀ i j, (f3 i j).natAbs < 2 ^ B) ∧ (∀ i j, (f4 i j).natAbs < 2 ^ B) ∧ (∀ i j, (f5 i j).natAbs < 2 ^ B)
theorem DrawAt.same {K : PySem.W.Frag} {H H' : Hp} {v : V} {h w B : Nat} (s : Same H H') (d : DrawAt K H v h w B) : DrawAt K H' v h w B := by
  obtain ⟨a, v0, v1, v2, v3, v4, v5, ns, f1, f2, f3, f4, f5, e, q, r0, l, b, r1, r2, r3, r4, r5, bb⟩ := d
  exact ⟨a, v0, v1, v2, v3, v4, v5, ns, f1, f2, f3, f4, f5, e, s.seq q, Rep.same s r0, l, b, Rep.same s r1, Rep.same s r2, Rep.same s r3, Rep.same s r4, Rep.same s r5, bb⟩
theorem DrawAt.more {K : PySem.W.Frag} {H : Hp} {v : V} {h w B B' : Nat} (hb : B ≤ B') (d : DrawAt K H v h w B) : DrawAt K H v h w B' := by
  obtain ⟨a, v0, v1, v2, v3, v4, v5, ns, f1, f2, f3, f4, f5, e, q, r0, l, b, r1, r2, r3, r4, r5, b1, b2, b3, b4, b5⟩ := d
  exact ⟨a, v0, v1, v2, v3, v4, v5, ns, f1, f2, f3, f4, f5, e, q, r0, l, fun x hx => bd_mono (b x hx) hb, r1, r2, r3, r4, r5, fun i j => bd_mono (b1 i j) hb, fun i j => bd_mono (b2 i j) hb, fun i j => bd_mono (b3 i j) hb, fun i j => bd_mono (b4 i j) hb, fun i j => bd_mono (b5 i j) hb⟩
theorem bd_colF {B : Nat} {n : Int} {f : Nat → Nat → Int} (hn : n.natAbs < 2 ^ 10) (hf : ∀ i j, (f i j).natAbs < 2 ^ B) (i0 j0 a c : Nat) : (f a c + n * f a j0 * (if c = i0 then 1 else 0)).natAbs < 2 ^ (B + 20) := by
  have b1 : (n * f a j0).natAbs < 2 ^ (10 + B) := bd_mul hn (hf a j0)
  have b2 : (n * f a j0 * (if c = i0 then 1 else 0)).natAbs < 2 ^ (10 + B + 4) := bd_mul b1 (by split <;> decide)
  exact bd_mono (bd_add (bd_mono (hf a c) (show B ≤ 10 + B + 4 by omega)) b2) (by omega)
theorem bd_rowF {B : Nat} {n : Int} {f : Nat → Nat → Int} (hn : n.natAbs < 2 ^ 10) (hf : ∀ i j, (f i j).natAbs < 2 ^ B) (i0 j0 a c : Nat) : (if a = i0 then f i0 c + n * f j0 c else f a c).natAbs < 2 ^ (B + 20) := by
  have b1 : (n * f j0 c).natAbs < 2 ^ (10 + B) := bd_mul hn (hf j0 c)
  split
  · exact bd_mono (bd_add (bd_mono (hf i0 c) (show B ≤ 10 + B by omega)) b1) (by omega)
  · exact bd_mono (hf a c) (by omega)
section
variable (K : PySem.W.Frag)
def sp_L_turned66 : Sp := fun vs H Q _ => ∃ (v : V) (c : Int) (h w B : Nat), vs = [v, .int c] ∧ DrawAt K H v h w B ∧ h ≤ 3 ∧ w ≤ 3 ∧ B ≤ 900 ∧ ∀ (u : V) (H' : Hp), Same H H' → DrawAt K H' u h w (B + 20) → Q u H'
def sp_L_numbers_are : Sp := fun vs H Q _ => ∃ (v : V) (t : TH) (m : Int), vs = [v, .int m] ∧ RepT K H v t ∧ szT t ∧ ∀ H', Same H H' → Q (.bl (numsOk m t)) H'
def sp_L_columns_added : Sp := fun vs H Q _ => ∃ (u : V) (h w i j B : Nat) (n : Int) (f : Nat → Nat → Int), vs = [u, .int (i : Int), .int (j : Int), .int n] ∧ Rep K H u (dT h w f) ∧ h ≤ 1000 ∧ w ≤ 1000 ∧ j < w ∧ n.natAbs < 2 ^ 10 ∧ (∀ a c, (f a c).natAbs < 2 ^ B) ∧ B ≤ 1000 ∧ newT H h w (fun a c => f a c + n * f a j * (if c = i then 1 else 0)) Q
def sp_L_other_number (_K : PySem.W.Frag) : Sp := fun vs H Q _ => ∃ (x c : Int) (B : Nat), vs = [.int x, .int c] ∧ x.natAbs < 2 ^ B ∧ B ≤ 1000 ∧ ∀ (v : V) (d : L2.D) (H' : Hp), Same H H' → (∀ G, Rep _K G v d) → (toI d).natAbs < 2 ^ (B + 2) → (∀ ds, d ≠ .lst ds) → Q v H'
def sp_L_added : Sp := fun vs H Q _ => ∃ (u : V) (h w i j B : Nat) (n : Int) (f : Nat → Nat → Int), vs = [u, .int (i : Int), .int (j : Int), .int n] ∧ Rep K H u (dT h w f) ∧ h ≤ 1000 ∧ w ≤ 1000 ∧ i < h ∧ j < h ∧ n.natAbs < 2 ^ 10 ∧ (∀ a c, (f a c).natAbs < 2 ^ B) ∧ B ≤ 1000 ∧ newT H h w (fun a c => if a = i then f i c + n * f j c else f a c) Q
def sp_L_due66 : Sp := fun vs H Q _ => ∃ (u v : V) (h w B : Nat) (f : Nat → Nat → Int) (p : PP), vs = [u, .int (h : Int), .int (w : Int), v] ∧ Rep K H u (dT h w f) ∧ h ≤ 3 ∧ w ≤ 3 ∧ (∀ i j, (f i j).natAbs < 2 ^ B) ∧ B ≤ 1000 ∧ RepP K H v p ∧ okP B p ∧ ∀ H', Same H H' → Q (.bl (lookP h w f p)) H'
def sp_diagonal_holds : Sp := fun vs H Q _ => ∃ (u v : V) (h w B : Nat) (f : Nat → Nat → Int) (p : PP), vs = [u, .int (w : Int), v] ∧ Rep K H u (dT h w f) ∧ h ≤ 40 ∧ w ≤ 40 ∧ (∀ i j, (f i j).natAbs < 2 ^ B) ∧ B ≤ 1000 ∧ RepP K H v p ∧ okP B p ∧ ∀ H', Same H H' → Q (.bl (lookP h w f p)) H'
def sp_is_wholeE : Sp := fun vs H Q _ => ∃ (x : V) (e : DE), vs = [x] ∧ RepE K H x e ∧ Q (.bl (wholeE e)) H
def sp_list_of_wholesT : Sp := fun vs H Q _ => ∃ (v : V) (t : TH) (w : Int), vs = [v, .int w] ∧ RepT K H v t ∧ szR t ∧ ∀ H', Same H H' → Q (.bl (rowT w t)) H'
def sp_is_square : Sp := fun vs H Q _ => ∃ (v : V) (t : TH) (n : Int), vs = [v, .int n] ∧ RepT K H v t ∧ szT t ∧ ∀ H', Same H H' → Q (.bl (sqT n t)) H'
def sp_are_turns : Sp := fun vs H Q _ => ∃ (v u : V) (t s : TH) (n B : Nat), vs = [v, u, .int (n : Int)] ∧ RepT K H v t ∧ RepT K H u s ∧ szT t ∧ szT s ∧ bdT B t ∧ bdT B s ∧ B ≤ 1000 ∧ n ≤ 1000 ∧ ∀ H', Same H H' → Q (.bl (turnT n t s)) H'
def sp_each_divides (_K : PySem.W.Frag) : Sp := fun vs H Q _ => ∃ (a : Addr) (ns : List Int), vs = [.ref a] ∧ SqL _K H a (ns.map V.int) ∧ ns.length ≤ 1000 ∧ (∀ x ∈ ns, 0 < x) ∧ ∀ H', Same H H' → Q (.bl ((ns.zip (ns.drop 1)).all fun p => decide (p.2 % p.1 = 0))) H'
def sp_are_numbers : Sp := fun vs H Q _ => ∃ (v : V) (t : TH) (m : Int), vs = [v, .int m] ∧ RepT K H v t ∧ szT t ∧ ∀ H', Same H H' → Q (.bl (numsOk m t)) H'
def sp_straight_row : Sp := fun vs H Q _ => ∃ (a : Addr) (ns : List Int) (i w : Nat), vs = [.ref a, .int (i : Int), .int (w : Int)] ∧ SqL K H a (ns.map V.int) ∧ w ≤ 1000 ∧ newL H w (fun j => if j = i then ns.getD i 0 else 0) Q
def sp_L_square_is : Sp := sp_is_square K
def sp_L_one (_K : PySem.W.Frag) : Sp := fun vs H Q _ => ∃ n : Nat, vs = [.int (n : Int)] ∧ n ≤ 1000 ∧ newT H n n oneF Q
def sp_L_product : Sp := fun vs H Q _ => ∃ (u v : V) (h d w : Nat) (f g : Nat → Nat → Int), vs = [u, v, .int (w : Int)] ∧ Rep K H u (dT h d f) ∧ Rep K H v (dT d w g) ∧ h ≤ 1000 ∧ d ≤ 1000 ∧ w ≤ 1000 ∧ (∀ i k j, i < h → k < d → j < w → IntMulOk (f i k) (g k j)) ∧ newT H h w (prodF d f g) Q
def sp_L_backs : Sp := fun vs H Q _ => ∃ (v u : V) (n B : Nat) (f g : Nat → Nat → Int), vs = [v, u, .int (n : Int)] ∧ Rep K H v (dT n n f) ∧ Rep K H u (dT n n g) ∧ (∀ i j, (f i j).natAbs < 2 ^ B) ∧ (∀ i j, (g i j).natAbs < 2 ^ B) ∧ B ≤ 1000 ∧ n ≤ 1000 ∧ ∀ H', Same H H' → Q (.bl (eqTab n n (prodF n f g) oneF && eqTab n n (prodF n g f) oneF)) H'
def sp_number_at : Sp := fun vs H Q _ => ∃ (a : Addr) (ns : List Int) (i : Nat), vs = [.ref a, .int (i : Int)] ∧ SqL K H a (ns.map V.int) ∧ Q (.int (ns.getD i 0)) H
def sp_is_multiple (_K : PySem.W.Frag) : Sp := fun vs H Q _ => ∃ (v n : Int), vs = [.int v, .int n] ∧ 0 < n ∧ Q (.bl (decide (v % n = 0))) H
end
end Hb

set_option Elab.async false
set_option linter.all false
set_option maxRecDepth 100000
set_option maxHeartbeats 4000000

namespace L2
open PySem PySem.Spec PyProof.Rows
theorem vals3 {x y z : V} {us : List Value} (r : Vals [x, y, z] us) : ∃ u v w, us = [u, v, w] ∧ RelV x u ∧ RelV y v ∧ RelV z w := by
  cases r with
  | cons r1 r2 =>
    obtain ⟨v, w, rfl, h2, h3⟩ := vals2 r2
    exact ⟨_, v, w, rfl, r1, h2, h3⟩
theorem call_min3 {X : Cx} (hc : X.calm = true) : CallR X (.builtin "min") (fun xs H Q => ∃ i j k, xs = [.int i, .int j, .int k] ∧ ∀ m, m ≤ i → m ≤ j → m ≤ k → (m = i ∨ m = j ∨ m = k) → Q (.int m) H) := by
  intro pins s σ H xs us Q I r h
  obtain ⟨i, j, k, rfl, q⟩ := h
  obtain ⟨u, v, w, rfl, ⟨t, rfl⟩, ⟨t', rfl⟩, ⟨t2, rfl⟩⟩ := vals3 r
  refine min_three_ints (I.ok.hd hc) fun h' tk kk => ?_
  by_cases h1 : j < i
  · rw [if_pos h1]
    by_cases h2 : k < j
    · rw [if_pos h2]
      exact ⟨.int k, H, I.kept kk, ⟨_, rfl⟩, q k (by omega) (by omega) (by omega) (by omega)⟩
    · rw [if_neg h2]
      exact ⟨.int j, H, I.kept kk, ⟨_, rfl⟩, q j (by omega) (by omega) (by omega) (by omega)⟩
  · rw [if_neg h1]
    by_cases h2 : k < i
    · rw [if_pos h2]
      exact ⟨.int k, H, I.kept kk, ⟨_, rfl⟩, q k (by omega) (by omega) (by omega) (by omega)⟩
    · rw [if_neg h2]
      exact ⟨.int i, H, I.kept kk, ⟨_, rfl⟩, q i (by omega) (by omega) (by omega) (by omega)⟩
theorem args_maxD (a v : Value) : argsOk "max" ⟨[a], [(Str.ofString "default", v)]⟩ := by unfold argsOk; kernel_rfl
section
variable {prog : Program} {w : World} {A : Around} {R : Result → Shared → Prop}

theorem maxD_loop {I l S : Addr} {d : Value} {items : Array Value} (hh : A.handled = none) (hlI : l ≠ I) (hSI : S ≠ I) (hSl : S ≠ l) (hint : ∀ v ∈ items.toList, ∃ n t, v = .int n t) :
    ∀ (k i : Nat) (s : Shared) (c : Nat) (best : Array Value), items.size - i = k → i ≤ items.size → s.heap.IsListIter I l i → s.heap.IsList l items →
    s.heap.get? S = some { cls := .type "list", dict := none, data := .seq best c, slots := #[] } →
    ((i = 0 ∧ best = #[]) ∨ ∃ v, v ∈ items.toList ∧ best = #[v, v]) →
    (∀ v h' tk, (v ∈ items.toList ∨ (items.size = 0 ∧ v = d)) → (∀ b o, b ≠ I → b ≠ S → s.heap.get? b = some o → h'.get? b = some o) → R (.ok (.ret v)) { s with heap := h', toks := tk }) →
    codeAny (model prog w) A (.builtin "max.loop" ⟨[.ref I, .none, .ref S], [(Str.ofString "default", d)]⟩) R s := by
  have hname : (toString "max" ++ toString ".loop" : String) = "max.loop" := by decide
  have W := Walks.list (prog := prog) (w := w) (A := A.in1) hh I l hlI items
  intro k
  induction k with
  | zero =>
    intro i s c best hk hi hit hls hS hb hR
    have hin : i = items.size := by omega
    refine codeAny_builtin PySem.F.entry_max_loop ?_; rw [Around.under_plainId PySem.F.plain_max_loop _]
    show wpAny _ A.in1 (seqItems? (.ref S) >>= _) _ _ s; refine wpAny_bind (wpAny_seqItems hS rfl ?_)
    show wpAny _ A.in1 (tryCatch (pyNext (.ref I)) _ >>= _) _ _ s; skip
    refine wpAny_bind (wpAny_tryCatch (W.done s _ _ ⟨hin ▸ hit, hls⟩ fun h' tk hk' => ?_))
    have hS' := hk' S _ (by simpa using hSI) hS
    rcases hb with ⟨h0, rfl⟩ | ⟨v, hv, rfl⟩
    · refine wpAny_bind (wpAny_rule (wpAny_pure ?_))
      exact hR d h' tk (.inr ⟨by omega, rfl⟩) fun b o hbI _ e => hk' b o (by simpa using hbI) e
    · show wpAny _ A.in1 (updateSeq S (fun _ => #[]) >>= _) _ _ _
      refine wpAny_bind ?_
      refine wpAny_updateSeq hS' rfl (wpAny_bind (wpAny_letGo (wpAny_pure ?_)))
      exact hR v _ tk (.inl hv) fun b o hbI hbS e => (Heap.get?_update_other _ _ (Ne.symm hbS)).trans (hk' b o (by simpa using hbI) e)
  | succ k ih =>
    intro i s c best hk hi hit hls hS hb hR
    have hlt : i < items.size := by omega
    refine codeAny_builtin PySem.F.entry_max_loop ?_; rw [Around.under_plainId PySem.F.plain_max_loop _]
    show wpAny _ A.in1 (seqItems? (.ref S) >>= _) _ _ s; refine wpAny_bind (wpAny_seqItems hS rfl ?_)
    show wpAny _ A.in1 (tryCatch (pyNext (.ref I)) _ >>= _) _ _ s; skip
    refine wpAny_bind (wpAny_tryCatch (W.item i s _ _ hlt ⟨hit, hls⟩ fun v h' tk hP hst' hk' => ?_))
    have hS' := hk' S _ (by simpa using hSI) hS
    have hvm : v ∈ items.toList := by
      have : items.toList[i]? = some v := by simpa using hP
      exact List.mem_of_getElem? this
    have upI : ∀ f : Array Value → Array Value, (h'.update S (Obj.mapSeq f)).IsListIter I l (i + 1) := fun f => hst'.1.at fun o e => (Heap.get?_update_other _ _ hSI).trans e
    have upL : ∀ f : Array Value → Array Value, (h'.update S (Obj.mapSeq f)).IsList l items := fun f => hst'.2.at fun o e => (Heap.get?_update_other _ _ hSl).trans e
    have old : ∀ (f : Array Value → Array Value) (b : Addr) (o : Obj), b ≠ I → b ≠ S → s.heap.get? b = some o → (h'.update S (Obj.mapSeq f)).get? b = some o := fun f b o hbI hbS e => (Heap.get?_update_other _ _ (Ne.symm hbS)).trans (hk' b o (by simpa using hbI) e)
    rcases hb with ⟨h0, rfl⟩ | ⟨vb, hvb, rfl⟩
    · show wpAny _ A.in1 (updateSeq S (fun _ => #[v, v]) >>= _) _ _ _
      refine wpAny_bind ?_
      refine wpAny_updateSeq hS' rfl ?_
      rw [hname]
      refine wpAny_pure ⟨plainId_quiet PySem.F.plain_max_loop _, ih (i + 1) _ _ #[v, v] (by omega) hlt (upI _) (upL _) (Heap.get?_update_self _ hS' rfl) (.inr ⟨v, hvm, rfl⟩) fun v' h'' tk' hv' kk => ?_⟩
      exact hR v' h'' tk' hv' fun b o hbI hbS e => kk b o hbI hbS (old _ b o hbI hbS e)
    · obtain ⟨n1, t1, rfl⟩ := hint v hvm
      obtain ⟨n2, t2, rfl⟩ := hint vb hvb
      show wpAny _ A.in1 (tryCatch (holding [.int n1 t1, .int n1 t1] (richCompare .Gt (.int n1 t1) (.int n2 t2) >>= _)) _ >>= _) _ _ _
      refine wpAny_bind (wpAny_tryCatch (wpAny_holding (wpAny_bind (CmpOf.ints_gt (prog := prog) (w := w) (A := A.in1) (P := fun i v => ∃ t, v = .int (if i = 0 then n1 else n2) t) (fun i => if i = 0 then n1 else n2) (fun i v h => h) 0 1 _ _ _ _ _ ⟨t1, rfl⟩ ⟨t2, rfl⟩ ?_))))
      refine wpAny_bind (wpAny_holding (wpAny_truthy_bool ?_))
      refine wpAny_bind (wpAny_letGo (wpAny_pure ?_))
      split
      · refine wpAny_bind ?_
        refine wpAny_updateSeq hS' rfl (wpAny_bind (wpAny_letGo ?_)); rw [hname]
        refine wpAny_pure ⟨plainId_quiet PySem.F.plain_max_loop _, ih (i + 1) _ _ #[.int n1 t1, .int n1 t1] (by omega) hlt (upI _) (upL _) (Heap.get?_update_self _ hS' rfl) (.inr ⟨_, hvm, rfl⟩) fun v' h'' tk' hv' kk => ?_⟩
        exact hR v' h'' tk' hv' fun b o hbI hbS e => kk b o hbI hbS (old _ b o hbI hbS e)
      · refine wpAny_bind (wpAny_letGo ?_); rw [hname]
        refine wpAny_pure ⟨plainId_quiet PySem.F.plain_max_loop _, ih (i + 1) _ _ #[.int n2 t2, .int n2 t2] (by omega) hlt hst'.1 hst'.2 hS' (.inr ⟨_, hvb, rfl⟩) fun v' h'' tk' hv' kk => ?_⟩
        exact hR v' h'' tk' hv' fun b o hbI hbS e => kk b o hbI hbS (hk' b o (by simpa using hbI) e)
theorem maxD {l : Addr} {d : Value} {items : Array Value} {s : Shared} {E : Value → Shared → Prop} {Q : Value → Shared → Prop} (hh : A.handled = none) (hls : s.heap.IsList l items) (hint : ∀ v ∈ items.toList, ∃ n t, v = .int n t)
    (hQ : ∀ v h' tk, (v ∈ items.toList ∨ (items.size = 0 ∧ v = d)) → (∀ b o, s.heap.get? b = some o → h'.get? b = some o) → Q v { s with heap := h', toks := tk }) :
    wpAny (model prog w) A (call (.builtin "max") [.ref l] [(Str.ofString "default", d)]) Q E s := by
  have hname : (toString "max" ++ toString ".loop" : String) = "max.loop" := by decide
  obtain ⟨ol, hol, _⟩ := id hls
  have hll : l < s.heap.objs.size := Heap.lt_size hol
  refine PyProof.Rows.kmk_tree PySem.F.kind_max PySem.F.plain_max PySem.F.entry_max (args_maxD _ _) ?_
  show wpAny _ A.in1 (Builtin.Builtins.bindParams "max" ["key", "default"] 0 ⟨[], [(Str.ofString "default", d)]⟩ >>= _) _ _ s
  refine wpAny_bind (wpAny_of_eq (show Builtin.Builtins.bindParams "max" ["key", "default"] 0 ⟨[], [(Str.ofString "default", d)]⟩ = pure [none, some d] from rfl) ?_)
  refine wpAny_bind (wpAny_pure ?_)
  refine wpAny_bind (wpAny_pyIter_list hls ?_)
  refine wpAny_bind (wpAny_newList ?_ (Nat.zero_le _))
  rw [hname]
  have hS : (s.heap.push { cls := .type "list_iterator", data := .fields #[.ref l, .int 0 0] }).objs.size = s.heap.objs.size + 1 := Heap.size_push ..
  have hSz : (s.heap.objs.size + 1 : Nat) ≠ s.heap.objs.size := Nat.succ_ne_self _
  have hSl : (s.heap.objs.size + 1 : Nat) ≠ l := Nat.ne_of_gt (Nat.lt_succ_of_lt hll)
  refine wpAny_pure ⟨plainId_quiet PySem.F.plain_max_loop _, ?_⟩
  refine maxD_loop (I := s.heap.objs.size) (l := l) (S := (s.heap.push { cls := .type "list_iterator", data := .fields #[.ref l, .int 0 0] }).objs.size) (items := items) hh (Nat.ne_of_lt hll) (by rw [hS]; exact hSz) (by rw [hS]; exact hSl) hint _ 0 _ _ #[] rfl (Nat.zero_le _) ?_ ?_ (Heap.get?_push_size _ rfl) (.inl ⟨rfl, rfl⟩) fun v h' tk hv kk => ?_
  · exact ⟨_, Heap.get?_push_of_some _ (Heap.get?_push_size _ rfl), rfl, rfl⟩
  · exact (hls.push _).push _
  · refine hQ v h' tk hv fun b o e => ?_
    have hb := Heap.lt_size e
    exact kk b o (Nat.ne_of_lt hb) (by rw [hS]; exact Nat.ne_of_lt (Nat.lt_succ_of_lt hb)) (Heap.get?_push_of_some _ (Heap.get?_push_of_some _ e))
end

def tMaxD (K : PySem.W.Frag) (ta : TA) (td : TE) : TE := fun σ H Q => ta σ H fun xs H1 => td σ H1 fun y H2 => ∃ (a : Addr) (ns : List Int) (i : Int), xs = [.ref a] ∧ SqL K H2 a (ns.map V.int) ∧ y = .int i ∧ ∀ m, (m ∈ ns ∨ m = i) → Q (.int m) H2
theorem pe_maxD {X : Cx} {K : PySem.W.Frag} {e d : Expr} {ta : TA} {td : TE} {p kp pos : Pos} (hc : X.calm = true) (hg : Gl X "max") (hm : X.mg "max" = none) (ha : PA X [e] ta) (hd : PE X d td) (hK : X.K = K := by rfl)
    (he : backTo pos (starEach (e :: []) X.env) = (false, eval e X.env) :: backTo pos (starEach [] X.env) := by rfl)
    (hplain : (backTo pos (starEach (e :: []) X.env)).any (·.1) = false := by rfl) :
    PE X (.Call (.Name "max" p) [e] [⟨some "default", d, kp⟩] pos) (tMaxD K ta td) := by
  subst hK
  intro pins s σ H Q I h
  refine wpAny_Call_Name_kw (ld_blt I hg hm boot_maxB ?_)
  refine callWith_kw (thn (ha pos pins s σ H _ I h) fun us s1 ⟨vs, H1, I1, r1, q1⟩ => ?_) he hplain
  refine kws_cons (thn (hd pins s1 σ H1 _ I1 q1) fun v s2 ⟨y, H2, I2, r2, q2⟩ => kws_nil ?_)
  obtain ⟨a, ns, i, rfl, hq, rfl, q⟩ := q2
  obtain ⟨u, rfl, ru⟩ := vals1 r1
  cases ru
  obtain ⟨t, rfl⟩ := r2
  obtain ⟨its, rv, ht, _⟩ := I2.list hq
  have each : ∀ v ∈ its, ∃ n t, v = .int n t ∧ n ∈ ns := fun v hv => by
    obtain ⟨j, hj⟩ := List.getElem?_of_mem hv
    have hjl : j < ns.length := by
      have h1 := (List.getElem?_eq_some_iff.mp hj).1
      have h2 := rv.length
      rw [List.length_map] at h2
      omega
    obtain ⟨w', hw, rw'⟩ := rv.get (show (ns.map V.int)[j]? = some (.int ns[j]) by rw [List.getElem?_map, List.getElem?_eq_getElem hjl]; rfl)
    rw [hj] at hw
    cases hw
    obtain ⟨t', e'⟩ := rw'
    exact ⟨_, t', e', List.getElem_mem hjl⟩
  refine maxD (I2.ok.hd hc) ht.isList (fun v hv => ?_) fun v h' tk hv kk => ?_
  · obtain ⟨n, t', e', _⟩ := each v (by simpa using hv)
    exact ⟨n, t', e'⟩
  · rcases hv with hv | ⟨_, rfl⟩
    · obtain ⟨n, t', rfl, hn⟩ := each v (by simpa using hv)
      exact ⟨.int n, H2, I2.kept kk, ⟨_, rfl⟩, q n (.inl hn)⟩
    · exact ⟨.int i, H2, I2.kept kk, ⟨_, rfl⟩, q i (.inr rfl)⟩
end L2

set_option Elab.async false
set_option linter.all false
set_option maxRecDepth 100000
set_option maxHeartbeats 4000000

namespace Hb
open PySem L2
theorem nd_ne {as : List Addr} (nd : as.Nodup) {i j : Nat} {a b : Addr} (hi : as[i]? = some a) (hj : as[j]? = some b) (h : i ≠ j) : a ≠ b := fun e => by
  subst e
  obtain ⟨h1, e1⟩ := List.getElem?_eq_some_iff.mp hi
  obtain ⟨h2, e2⟩ := List.getElem?_eq_some_iff.mp hj
  rcases Nat.lt_or_gt_of_ne h with z | z
  · exact List.pairwise_iff_getElem.mp nd i j h1 h2 z (e1.trans e2.symm)
  · exact List.pairwise_iff_getElem.mp nd j i h2 h1 z (e2.trans e1.symm)
theorem nd_push {as : List Addr} {b : Addr} (nd : as.Nodup) (h : ∀ a ∈ as, a ≠ b) : (as ++ [b]).Nodup := by
  rw [List.nodup_append]
  refine ⟨nd, by simp, fun a ha c hc => ?_⟩
  rw [List.mem_singleton.mp hc]
  exact h a ha
section
variable {K : PySem.W.Frag} {H H1 : Hp}
theorem Rows.has {D : Addr} {as : List Addr} {w : Nat} {f : Nat → Nat → Int} (R : Rows H H1 D as w f) {b : Addr} (hb : H1 b = none) : ∀ a ∈ as, a ≠ b := fun a ha e => by
  obtain ⟨j, hj⟩ := List.getElem?_of_mem ha
  have := (R.row j a hj).2.2
  rw [e, hb] at this
  cases this

theorem Rows.put1 {D a : Addr} {as : List Addr} {w i : Nat} {f g : Nat → Nat → Int} (R : Rows H H1 D as w f) (nd : as.Nodup) (hi : as[i]? = some a) (hg : ∀ b, b ≠ i → f b = g b) : Rows H (upd H1 a (.lst (VI w (g i)))) D as w g := by
  obtain ⟨q1, q2, q3⟩ := R.row i a hi
  refine ⟨R.same.turn q1, R.free, by rw [upd_ne (Ne.symm q2)]; exact R.at, fun j b hj => ?_⟩
  obtain ⟨p1, p2, p3⟩ := R.row j b hj
  refine ⟨p1, p2, ?_⟩
  by_cases z : j = i
  · subst z
    rw [hi] at hj
    cases hj
    exact upd_same
  · rw [upd_ne (nd_ne nd hj hi z), ← hg j z]
    exact p3
theorem Rows.beside {D N : Addr} {as : List Addr} {w : Nat} {f : Nat → Nat → Int} {o : HO} (R : Rows H H1 D as w f) (hN : H N = none) (nD : N ≠ D) (na : ∀ a ∈ as, a ≠ N) : Rows H (upd H1 N o) D as w f := by
  refine ⟨R.same.turn hN, R.free, by rw [upd_ne (Ne.symm nD)]; exact R.at, fun j b hj => ?_⟩
  obtain ⟨p1, p2, p3⟩ := R.row j b hj
  exact ⟨p1, p2, by rw [upd_ne (na b (List.mem_of_getElem? hj))]; exact p3⟩
end

def bdE (B : Nat) : DE → Prop
  | .d (.lst ds) => ds.length ≤ 1000 ∧ ∀ d ∈ ds, (toI d).natAbs < 2 ^ B
  | _ => True
theorem bdE_mono {B C : Nat} (h : B ≤ C) : ∀ {e : DE}, bdE B e → bdE C e
  | .d (.lst ds), q => ⟨q.1, fun d hd => bd_mono (q.2 d hd) h⟩
  | .d .non, _ => trivial
  | .d (.bl _), _ => trivial
  | .d (.int _), _ => trivial
  | .d (.str _), _ => trivial
  | .d (.tup _), _ => trivial
  | .nul, _ => trivial
def okT (B : Nat) (t : TH) : Prop := szT t ∧ bdT B t
theorem okT_one {B : Nat} {e : DE} (h : isE "list" e = false) : okT B (.one e) := ⟨h, fun _ _ => Nat.pow_pos (by decide)⟩
theorem okT_rows {B : Nat} {es : List DE} (hl : es.length ≤ 1000) (h : ∀ e ∈ es, bdE B e) : okT B (.rows es) := by
  refine ⟨⟨hl, fun e he => ?_⟩, fun i j => ?_⟩
  · have q := h e he
    match e, q with
    | .d (.lst ds), q => exact q.1
    | .d .non, _ => trivial
    | .d (.bl _), _ => trivial
    | .d (.int _), _ => trivial
    | .d (.str _), _ => trivial
    | .d (.tup _), _ => trivial
    | .nul, _ => trivial
  · show ((match es.getD i .nul with | .d (.lst ds) => (ds.map toI).getD j 0 | _ => 0) : Int).natAbs < _
    have z : (0 : Int).natAbs < 2 ^ B := Nat.pow_pos (by decide)
    have q : es.getD i .nul ∈ es ∨ es.getD i .nul = .nul := by
      by_cases hi : i < es.length
      · rw [List.getD_eq_getElem?_getD, List.getElem?_eq_getElem hi]
        exact .inl (List.getElem_mem hi)
      · rw [List.getD_eq_getElem?_getD, List.getElem?_eq_none (by omega)]
        exact .inr rfl
    rcases q with q | q
    · have q := h _ q
      generalize es.getD i .nul = e at q
      match e, q with
      | .d (.lst ds), q =>
        show ((ds.map toI).getD j 0).natAbs < _
        refine getD_bd (fun x hx => ?_) j
        obtain ⟨d, hd, rfl⟩ := List.mem_map.mp hx
        exact q.2 d hd
      | .d .non, _ => exact z
      | .d (.bl _), _ => exact z
      | .d (.int _), _ => exact z
      | .d (.str _), _ => exact z
      | .d (.tup _), _ => exact z
      | .nul, _ => exact z
    · rw [q]
      exact z

theorem okT_of {K : PySem.W.Frag} {H : Hp} {B : Nat} {v : V} {e : DE} (hv : RepE K H v e) (he : bdE B e) (hn : ∀ ds, e = .d (.lst ds) → ∀ d ∈ ds, bdE B (.d d)) : ∃ t, RepT K H v t ∧ okT B t := by
  cases hl : isE "list" e with
  | false => exact ⟨.one e, hv, okT_one hl⟩
  | true =>
    obtain ⟨ds, rfl⟩ := isE_list hl
    obtain ⟨a, vs, rfl, hq, hr⟩ := hv
    refine ⟨.rows (ds.map DE.d), ⟨a, vs, rfl, hq, RepsE.of hr⟩, okT_rows (by rw [List.length_map]; exact he.1) fun x hx => ?_⟩
    obtain ⟨d, hd, rfl⟩ := List.mem_map.mp hx
    exact hn ds rfl d hd
theorem list5 {α : Type} {l : List α} (h : l.length = 5) : ∃ a b c d e, l = [a, b, c, d, e] := by
  match l, h with
  | [a, b, c, d, e], _ => exact ⟨a, b, c, d, e, rfl⟩
theorem cut_ten (ns : List Int) : ∃ cs : List Int, cutV (ns.map V.int) (some 9) (some 19) = cs.map V.int ∧ cs.length ≤ 10 := by
  refine ⟨(ns.drop (min 9 ns.length)).take (min 19 ns.length - min 9 ns.length), ?_, ?_⟩
  · unfold cutV
    rw [show (some 9 : Option Int) = some ((9 : Nat) : Int) from rfl, show (some 19 : Option Int) = some ((19 : Nat) : Int) from rfl, HT.sIx_nat, HT.sIx_nat, List.length_map, List.map_take, List.map_drop]
  · rw [List.length_take]
    omega
theorem RepP.same {K : PySem.W.Frag} {H H' : Hp} {v : V} {p : PP} (s : Same H H') (h : RepP K H v p) : RepP K H' v p := by
  cases p with
  | data t => exact ⟨RepT.same s h.1, h.2⟩
  | tup ts =>
    obtain ⟨a, vs, e, ha, hr⟩ := h
    exact ⟨a, vs, e, s _ _ ha, RepsT.same s hr⟩

structure Pap (B : Nat) (ds : List L2.D) : Prop where
  len : ds.length ≤ 3
  each : ∀ d ∈ ds, bdE B (.d d)
theorem Pap.ok {B : Nat} {ds : List L2.D} (p : Pap B ds) : okT B (.rows (ds.map DE.d)) := okT_rows (by rw [List.length_map]; have := p.len; omega) fun x hx => by
  obtain ⟨d, hd, rfl⟩ := List.mem_map.mp hx
  exact p.each d hd
theorem pap_nums {B : Nat} {ns : List Int} (h : ns.length ≤ 3) : Pap B (nums ns) := ⟨by simpa [nums] using h, fun d hd => by obtain ⟨n, _, rfl⟩ := List.mem_map.mp hd; trivial⟩
def rowsD (n : Nat) (f : Nat → Nat → Int) : List L2.D := (List.range n).map fun i => dL n (f i)
theorem pap_rows {B n : Nat} {f : Nat → Nat → Int} (h : n ≤ 3) (hf : ∀ i j, (f i j).natAbs < 2 ^ B) : Pap B (rowsD n f) := by
  refine ⟨by unfold rowsD; rw [List.length_map, List.length_range]; exact h, fun d hd => ?_⟩
  obtain ⟨i, _, rfl⟩ := List.mem_map.mp hd
  refine ⟨by show (nums (lsI n (f i))).length ≤ _; rw [nums, List.length_map, lsI_len]; omega, fun d hd => ?_⟩
  obtain ⟨x, hx, rfl⟩ := List.mem_map.mp hd
  obtain ⟨j, _, rfl⟩ := List.mem_map.mp hx
  exact hf i j
theorem RepsT.mk {K : PySem.W.Frag} {H : Hp} : ∀ {vs : List V} {ts : List TH}, vs.length = ts.length → (∀ (i : Nat) v t, vs[i]? = some v → ts[i]? = some t → RepT K H v t) → RepsT K H vs ts
  | [], [], _, _ => trivial
  | v :: vs, t :: ts, hl, h => ⟨h 0 v t rfl rfl, RepsT.mk (by simpa using hl) fun i v t h1 h2 => h (i + 1) v t (by simpa using h1) (by simpa using h2)⟩
  | [], _ :: _, hl, _ => by simp at hl
  | _ :: _, [], hl, _ => by simp at hl
theorem RepsT.app {K : PySem.W.Frag} {H : Hp} : ∀ {vs us : List V} {ts rs : List TH}, RepsT K H vs ts → RepsT K H us rs → RepsT K H (vs ++ us) (ts ++ rs)
  | [], _, [], _, _, h => h
  | _ :: _, _, _ :: _, _, h, g => ⟨h.1, RepsT.app h.2 g⟩
  | [], _, _ :: _, _, h, _ => h.elim
  | _ :: _, _, [], _, h, _ => h.elim
theorem RepsT.take {K : PySem.W.Frag} {H : Hp} : ∀ {vs : List V} {ts : List TH}, RepsT K H vs ts → ∀ n, RepsT K H (vs.take n) (ts.take n)
  | [], [], _, n => by simp [RepsT]
  | _ :: _, _ :: _, _, 0 => trivial
  | _ :: _, _ :: _, h, n + 1 => ⟨h.1, RepsT.take h.2 n⟩
  | [], _ :: _, h, _ => h.elim
  | _ :: _, [], h, _ => h.elim
theorem RepsT.drop {K : PySem.W.Frag} {H : Hp} : ∀ {vs : List V} {ts : List TH}, RepsT K H vs ts → ∀ n, RepsT K H (vs.drop n) (ts.drop n)
  | [], [], _, n => by simp [RepsT]
  | _ :: _, _ :: _, h, 0 => h
  | _ :: _, _ :: _, h, n + 1 => RepsT.drop h.2 n
  | [], _ :: _, h, _ => h.elim
  | _ :: _, [], h, _ => h.elim
end Hb
namespace L2
open PySem
theorem RepsE.app {K : PySem.W.Frag} {H : Hp} : ∀ {vs us : List V} {ts rs : List DE}, RepsE K H vs ts → RepsE K H us rs → RepsE K H (vs ++ us) (ts ++ rs)
  | [], _, [], _, _, h => h
  | _ :: _, _, _ :: _, _, h, g => ⟨h.1, RepsE.app h.2 g⟩
  | [], _, _ :: _, _, h, _ => h.elim
  | _ :: _, _, [], _, h, _ => h.elim
theorem RepsE.take {K : PySem.W.Frag} {H : Hp} : ∀ {vs : List V} {ts : List DE}, RepsE K H vs ts → ∀ n, RepsE K H (vs.take n) (ts.take n)
  | [], [], _, n => by simp [RepsE]
  | _ :: _, _ :: _, _, 0 => trivial
  | _ :: _, _ :: _, h, n + 1 => ⟨h.1, RepsE.take h.2 n⟩
  | [], _ :: _, h, _ => h.elim
  | _ :: _, [], h, _ => h.elim
theorem RepsE.drop {K : PySem.W.Frag} {H : Hp} : ∀ {vs : List V} {ts : List DE}, RepsE K H vs ts → ∀ n, RepsE K H (vs.drop n) (ts.drop n)
  | [], [], _, n => by simp [RepsE]
  | _ :: _, _ :: _, h, 0 => h
  | _ :: _, _ :: _, h, n + 1 => RepsE.drop h.2 n
  | [], _ :: _, h, _ => h.elim
  | _ :: _, [], h, _ => h.elim
theorem RepsE.erase {K : PySem.W.Frag} {H : Hp} : ∀ {vs : List V} {ts : List DE}, RepsE K H vs ts → ∀ n, RepsE K H (vs.eraseIdx n) (ts.eraseIdx n)
  | [], [], _, n => by simp [RepsE]
  | _ :: _, _ :: _, h, 0 => h.2
  | _ :: _, _ :: _, h, n + 1 => ⟨h.1, RepsE.erase h.2 n⟩
  | [], _ :: _, h, _ => h.elim
  | _ :: _, [], h, _ => h.elim
theorem RepsE.cut {K : PySem.W.Frag} {H : Hp} {vs : List V} {es : List DE} (h : RepsE K H vs es) (lo hi : Option Int) : ∃ cs, RepsE K H (cutV vs lo hi) cs ∧ cs.length ≤ es.length ∧ ∀ e ∈ cs, e ∈ es := by
  refine ⟨(es.drop (HT.sIx vs.length 0 lo)).take (HT.sIx vs.length vs.length hi - HT.sIx vs.length 0 lo), (h.drop _).take _, ?_, fun e he => List.mem_of_mem_drop (List.mem_of_mem_take he)⟩
  rw [List.length_take, List.length_drop]
  omega
end L2
namespace Hb
open PySem L2

structure Five (K : PySem.W.Frag) (H : Hp) (B : Nat) (vs : List V) (dss : List (List L2.D)) : Prop where
  n5 : vs.length = 5
  len : dss.length = 5
  each : ∀ (i : Nat) v ds, vs[i]? = some v → dss[i]? = some ds → Rep K H v (.lst ds) ∧ Pap B ds
  one : ∃ ns : List Int, dss[0]? = some (nums ns) ∧ ∀ x ∈ ns, x.natAbs < 2 ^ B
  more : ∀ (i : Nat) ds, i ≠ 0 → dss[i]? = some ds → ∃ n f, ds = rowsD n f ∧ n ≤ 3 ∧ ∀ i j, (f i j).natAbs < 2 ^ B
theorem Five.same {K : PySem.W.Frag} {H H' : Hp} {B : Nat} {vs : List V} {dss : List (List L2.D)} (F : Five K H B vs dss) (s : Same H H') : Five K H' B vs dss := ⟨F.n5, F.len, fun i v ds h1 h2 => ⟨Rep.same s (F.each i v ds h1 h2).1, (F.each i v ds h1 h2).2⟩, F.one, F.more⟩
def thD (ds : List L2.D) : TH := .rows (ds.map DE.d)
theorem Five.reps {K : PySem.W.Frag} {H : Hp} {B : Nat} {vs : List V} {dss : List (List L2.D)} (F : Five K H B vs dss) : RepsT K H vs (dss.map thD) := by
  refine RepsT.mk (by rw [List.length_map, F.n5, F.len]) fun i v t h1 h2 => ?_
  rw [List.getElem?_map] at h2
  obtain ⟨ds, hd, rfl⟩ := Option.map_eq_some_iff.mp h2
  obtain ⟨⟨a, us, e, hq, hr⟩, _⟩ := F.each i v ds h1 hd
  exact ⟨a, us, e, hq, RepsE.of hr⟩
theorem Five.okT {K : PySem.W.Frag} {H : Hp} {B : Nat} {vs : List V} {dss : List (List L2.D)} (F : Five K H B vs dss) : ∀ t ∈ dss.map thD, okT B t := fun t ht => by
  obtain ⟨ds, hd, rfl⟩ := List.mem_map.mp ht
  obtain ⟨i, hi⟩ := List.getElem?_of_mem hd
  have hl : i < vs.length := by have := (List.getElem?_eq_some_iff.mp hi).1; have := F.n5; have := F.len; omega
  exact (F.each i vs[i] ds (List.getElem?_eq_getElem hl) hi).2.ok
theorem Five.at {K : PySem.W.Frag} {H : Hp} {B : Nat} {vs : List V} {dss : List (List L2.D)} (F : Five K H B vs dss) {i : Nat} (hi : i < 5) : ∃ (b : Addr) (us : List V) (ds : List L2.D), vs[i]? = some (.ref b) ∧ dss[i]? = some ds ∧ SqL K H b us ∧ Reps K H us ds ∧ Pap B ds := by
  have h1 : i < vs.length := by rw [F.n5]; exact hi
  have h2 : i < dss.length := by rw [F.len]; exact hi
  obtain ⟨⟨b, us, e, hq, hr⟩, hp⟩ := F.each i vs[i] dss[i] (List.getElem?_eq_getElem h1) (List.getElem?_eq_getElem h2)
  exact ⟨b, us, dss[i], by rw [List.getElem?_eq_getElem h1, e], List.getElem?_eq_getElem h2, hq, hr, hp⟩

theorem Five.whole {K : PySem.W.Frag} {H : Hp} {B : Nat} {vs : List V} {dss : List (List L2.D)} (F : Five K H B vs dss) : Reps K H vs (dss.map L2.D.lst) := by
  refine reps_mk (by rw [List.length_map, F.n5, F.len]) fun i v d h1 h2 => ?_
  rw [List.getElem?_map] at h2
  obtain ⟨ds, hd, rfl⟩ := Option.map_eq_some_iff.mp h2
  exact (F.each i v ds h1 hd).1
theorem five_mk {K : PySem.W.Frag} {H : Hp} {B h w : Nat} {v0 v1 v2 v3 v4 : V} {ns : List Int} {f1 f2 f3 f4 : Nat → Nat → Int} (hh : h ≤ 3) (hw : w ≤ 3) (r0 : Rep K H v0 (.lst (nums ns))) (l0 : ns.length ≤ 3) (b0 : ∀ x ∈ ns, x.natAbs < 2 ^ B)
    (r1 : Rep K H v1 (dT h h f1)) (r2 : Rep K H v2 (dT h h f2)) (r3 : Rep K H v3 (dT w w f3)) (r4 : Rep K H v4 (dT w w f4)) (b1 : ∀ i j, (f1 i j).natAbs < 2 ^ B) (b2 : ∀ i j, (f2 i j).natAbs < 2 ^ B) (b3 : ∀ i j, (f3 i j).natAbs < 2 ^ B) (b4 : ∀ i j, (f4 i j).natAbs < 2 ^ B) :
    Five K H B [v0, v1, v2, v3, v4] [nums ns, rowsD h f1, rowsD h f2, rowsD w f3, rowsD w f4] := by
  refine ⟨rfl, rfl, fun i v ds e1 e2 => ?_, ⟨ns, rfl, b0⟩, fun i ds hi e => ?_⟩
  · match i, e1, e2 with
    | 0, rfl, rfl => exact ⟨r0, pap_nums l0⟩
    | 1, rfl, rfl => exact ⟨r1, pap_rows hh b1⟩
    | 2, rfl, rfl => exact ⟨r2, pap_rows hh b2⟩
    | 3, rfl, rfl => exact ⟨r3, pap_rows hw b3⟩
    | 4, rfl, rfl => exact ⟨r4, pap_rows hw b4⟩
    | _ + 5, e, _ => exact nomatch (show none = some v from e)
  · match i, hi, e with
    | 0, z, _ => exact absurd rfl z
    | 1, _, rfl => exact ⟨h, f1, rfl, hh, b1⟩
    | 2, _, rfl => exact ⟨h, f2, rfl, hh, b2⟩
    | 3, _, rfl => exact ⟨w, f3, rfl, hw, b3⟩
    | 4, _, rfl => exact ⟨w, f4, rfl, hw, b4⟩
    | _ + 5, _, e => exact nomatch (show none = some ds from e)

structure Cop (K : PySem.W.Frag) (H H1 : Hp) (D : Addr) (as : List Addr) (dss : List (List L2.D)) : Prop where
  same : Same H H1
  free : H D = none
  «at» : H1 D = some (.lst (as.map V.ref))
  nd : as.Nodup
  row : ∀ (i : Nat) a ds, as[i]? = some a → dss[i]? = some ds → H a = none ∧ a ≠ D ∧ ∃ us, H1 a = some (.lst us) ∧ Reps K H us ds
section
variable {K : PySem.W.Frag} {H H1 H2 : Hp}
theorem Cop.nil {D : Addr} {dss : List (List L2.D)} (h : H D = none) : Cop K H (upd H D (.lst [])) D [] dss := ⟨Same.new h, h, upd_same, List.nodup_nil, fun i a ds e => by simp at e⟩
theorem Cop.push {D b : Addr} {as : List Addr} {dss : List (List L2.D)} (hl : as.length < dss.length) (C : Cop K H H1 D as dss) (hb : H1 b = none) (s : Same H1 H2) {us : List V} {ds : List L2.D} (hd : dss[as.length]? = some ds) (h2 : H2 b = some (.lst us)) (hr : Reps K H us ds) : Cop K H (upd H2 D (.lst (as.map V.ref ++ [.ref b]))) D (as ++ [b]) dss := by
  have hne : b ≠ D := fun z => by rw [z, C.at] at hb; cases hb
  refine ⟨(C.same.trans s).turn C.free, C.free, by rw [upd_same, List.map_append]; rfl, nd_push C.nd fun a ha e => ?_, fun j a ds' e e2 => ?_⟩
  · obtain ⟨j, hj⟩ := List.getElem?_of_mem ha
    have hjl := (List.getElem?_eq_some_iff.mp hj).1
    obtain ⟨_, _, us', h3, _⟩ := C.row j a dss[j] hj (List.getElem?_eq_getElem (by omega))
    rw [e, hb] at h3
    cases h3
  · by_cases hj : j < as.length
    · rw [List.getElem?_append_left hj] at e
      obtain ⟨h1, h2', us', h3, h4⟩ := C.row j a ds' e e2
      exact ⟨h1, h2', us', by rw [upd_ne h2']; exact s _ _ h3, h4⟩
    · have hl' : j < (as ++ [b]).length := (List.getElem?_eq_some_iff.mp e).1
      have ej : j = as.length := by simp at hl'; omega
      subst ej
      have eb : b = a := by simpa using e
      subst eb
      rw [hd] at e2
      cases e2
      exact ⟨C.same.free hb, hne, us, by rw [upd_ne hne]; exact h2, hr⟩

theorem Cop.done {D a : Addr} {as : List Addr} {dss : List (List L2.D)} {B C0 i : Nat} {H' : Hp} {us' : List V} {es' : List DE} (C : Cop K H H1 D as dss) (hl : as.length = dss.length) (hB : B ≤ C0) (hp : ∀ ds ∈ dss, Pap B ds) (hi : as[i]? = some a) (hs : Same H H') (ho : ∀ (j : Nat) b, j ≠ i → as[j]? = some b → H' b = H1 b) (ha : H' a = some (.lst us'))
    (hr : RepsE K H' us' es') (hel : es'.length ≤ 1000) (hee : ∀ e ∈ es', bdE C0 e) : RepsT K H' (as.map V.ref) ((dss.map thD).set i (.rows es')) ∧ ∀ t ∈ (dss.map thD).set i (.rows es'), okT C0 t := by
  refine ⟨RepsT.mk (by rw [List.length_map, List.length_set, List.length_map, hl]) fun j v t h1 h2 => ?_, fun t ht => ?_⟩
  · rw [List.getElem?_map] at h1
    obtain ⟨b, hb, rfl⟩ := Option.map_eq_some_iff.mp h1
    by_cases z : j = i
    · subst z
      rw [hi] at hb
      cases hb
      rw [List.getElem?_set_self (by rw [List.length_map]; have := (List.getElem?_eq_some_iff.mp hi).1; omega)] at h2
      cases h2
      exact ⟨a, us', rfl, .of ha, hr⟩
    · rw [List.getElem?_set_ne (Ne.symm z), List.getElem?_map] at h2
      obtain ⟨ds, hd, rfl⟩ := Option.map_eq_some_iff.mp h2
      obtain ⟨_, _, us, q1, q2⟩ := C.row j b ds hb hd
      exact ⟨b, us, rfl, .of ((ho j b z hb).trans q1), RepsE.same hs (RepsE.of q2)⟩
  · rcases List.mem_or_eq_of_mem_set ht with ht | rfl
    · obtain ⟨ds, hd, rfl⟩ := List.mem_map.mp ht
      refine okT_rows (by rw [List.length_map]; have := (hp ds hd).len; omega) fun x hx => ?_
      obtain ⟨d, hd2, rfl⟩ := List.mem_map.mp hx
      exact bdE_mono hB ((hp ds hd).each d hd2)
    · exact okT_rows hel hee
end
theorem pap_map {B C0 : Nat} {ds : List L2.D} (p : Pap B ds) (hB : B ≤ C0) : ∀ e ∈ ds.map DE.d, bdE C0 e := fun e he => by
  obtain ⟨d, hd, rfl⟩ := List.mem_map.mp he
  exact bdE_mono hB (p.each d hd)
theorem bd_one (i j : Nat) : (oneF i j).natAbs < 2 ^ 150 := by unfold oneF; split <;> decide
section
variable (K : PySem.W.Frag)
def sp_L_drawn66 : Sp := fun vs H Q _ => ∃ (a : Addr) (ns : List Int), vs = [.ref a] ∧ SqL K H a (ns.map V.int) ∧ ns.length ≤ 63 ∧ ∀ (v : V) (h w : Nat) (H' : Hp), h ≤ 3 → w ≤ 3 → Same H H' → DrawAt K H' v h w 150 → Q v H'
def sp_L_odd66 : Sp := fun vs H Q _ => ∃ (a : Addr) (ps : List V) (dss : List (List L2.D)) (i B : Nat) (at_ : Int), vs = [.ref a, .int (i : Int), .int at_] ∧ SqL K H a ps ∧ Five K H B ps dss ∧ i < 5 ∧ B ≤ 900 ∧ ∀ (v : V) (p : PP) (H' : Hp), Same H H' → RepP K H' v p → okP B p → Q v H'
def sp_L_spoilt66 : Sp := fun vs H Q _ => ∃ (s a : Addr) (ns : List Int) (ps : List V) (dss : List (List L2.D)) (B : Nat), vs = [.ref s, .ref a] ∧ SqL K H s (ns.map V.int) ∧ ns.length ≤ 63 ∧ SqL K H a ps ∧ Five K H B ps dss ∧ 1 ≤ B ∧ B ≤ 900 ∧ ∀ (v : V) (p : PP) (H' : Hp), Same H H' → RepP K H' v p → okP (B + 2) p → Q v H'
end
end Hb

set_option Elab.async false
set_option linter.all false
set_option maxRecDepth 100000
set_option maxHeartbeats 4000000
namespace Hb
open PySem L2
def top (i : Nat) : Stmt := PySem.Challenge.pw_holebook_k66_a_diagonal_looked_at.main.body.getD i (.Pass ⟨0, 0, 0, 0⟩)
structure Txt (K : PySem.W.Frag) (mg : Str → Option Value) : Prop where
  n_isinstance : mg "isinstance" = none
  n_int : mg "int" = none
  n_bool : mg "bool" = none
  n_list : mg "list" = none
  n_all : mg "all" = none
  n_len : mg "len" = none
  n_range : mg "range" = none
  n_zip : mg "zip" = none
  n_tuple : mg "tuple" = none
  n_min : mg "min" = none
  n_sum : mg "sum" = none
  n_max : mg "max" = none

theorem ndc_0 : (["number"] : List Str).Nodup := by decide +kernel
theorem ndc_1 : (["row", "other", "width"] : List Str).Nodup := by decide +kernel
theorem ndc_2 : (["i", "size"] : List Str).Nodup := by decide +kernel
theorem ndc_3 : (["j", "i"] : List Str).Nodup := by decide +kernel
theorem ndc_4 : (["left", "right", "a", "b"] : List Str).Nodup := by decide +kernel
theorem ndc_5 : (["i", "thing", "width"] : List Str).Nodup := by decide +kernel
theorem ndc_6 : (["number", "after"] : List Str).Nodup := by decide +kernel
theorem ndc_7 : (["row", "size"] : List Str).Nodup := by decide +kernel
theorem ndc_8 : (["j", "i", "numbers"] : List Str).Nodup := by decide +kernel
theorem ndc_9 : (["_law_number"] : List Str).Nodup := by decide +kernel
theorem ndc_10 : (["_law_j", "_law_row", "_law_other"] : List Str).Nodup := by decide +kernel
theorem ndc_11 : (["_law_k", "_law_row", "_law_other", "_law_j"] : List Str).Nodup := by decide +kernel
theorem ndc_12 : (["_law_j", "_law_i"] : List Str).Nodup := by decide +kernel
theorem ndc_13 : (["_law_k", "_law_found", "_law_i", "_law_number", "_law_j"] : List Str).Nodup := by decide +kernel
theorem ndc_14 : (["_law_row"] : List Str).Nodup := by decide +kernel
theorem ndc_15 : (["_law_k", "_law_row", "_law_number", "_law_j", "_law_i"] : List Str).Nodup := by decide +kernel
theorem ndc_16 : (["_law_one_here"] : List Str).Nodup := by decide +kernel
section
variable {P : Program} {w : World} {K : PySem.W.Frag} {mg : Str → Option Value} {base : Heap}
abbrev s_is_whole : Stmt := top 1
theorem sc_is_whole : FnScope ["thing"] ["thing"] (defScope s_is_whole) := ⟨rfl, rfl, rfl, by decide +kernel, rfl, by decide +kernel, by decide +kernel⟩
theorem ok_is_whole {f : Addr} {fd : FuncData} (F : Fun K "is_whole" "is_whole" s_is_whole f fd) (T : Txt K mg)  : FnOk P w K mg base CX0 1 f fd ["thing"] (sp_is_wholeE K) := by
  refine F.ok sc_is_whole (fun vs H Q E h => ?_) (fun cdv A outer s H vs Q E hr h => ?_)
  · obtain ⟨x, e, rfl, hx, k⟩ := h
    rfl
  · obtain ⟨x, e, rfl, hx, k⟩ := h
    refine ⟨_, (pss_one (ps_ret (pe_and (pe_callB (call_isiT (K := K)) (by rfl) T.n_isinstance boot_isinstanceB (pa_cons (pv 0) (pa_cons (pe_bltn (v := .ty "int") rfl T.n_int boot_intT rfl) pa_nil))) (pe_one (pe_not (pe_callB (call_isiT (K := K)) (by rfl) T.n_isinstance boot_isinstanceB (pa_cons (pv 0) (pa_cons (pe_bltn (v := .ty "bool") rfl T.n_bool boot_boolT rfl) pa_nil)))))))), ?_⟩
    refine ⟨_, rfl, x, "int", .one e, rfl, .inl rfl, hx, _, rfl, ?_⟩
    refine ite2 (fun h1 => ?_) (fun h1 => ?_)
    · refine ⟨_, rfl, x, "bool", .one e, rfl, .inr (.inl rfl), hx, _, rfl, ?_⟩
      have h2 : isE "int" e = true := h1
      have e1 : wholeE e = !isE "bool" e := by
        cases e with
        | nul => exact nomatch (show false = true from h2)
        | d d => show (isD "int" d && !isD "bool" d) = _; rw [show isD "int" d = true from h2]; rfl
      rw [e1] at k
      exact k
    · have h2 : isE "int" e = false := by
        have h3 : ¬ isE "int" e = true := h1
        simpa using h3
      have e1 : wholeE e = false := by
        cases e with
        | nul => rfl
        | d d => show (isD "int" d && !isD "bool" d) = _; rw [show isD "int" d = false from h2]; rfl
      rw [e1] at k
      first | exact k | (rw [show isT "int" (.one e) = false from h2]; exact k)
abbrev s_one_row : Stmt := top 6
theorem sc_one_row : FnScope ["size", "i"] ["size", "i"] (defScope s_one_row) := ⟨rfl, rfl, rfl, by decide +kernel, rfl, by decide +kernel, by decide +kernel⟩
theorem ok_one_row {f : Addr} {fd : FuncData} (F : Fun K "one_row" "one_row" s_one_row f fd) (T : Txt K mg)  : FnOk P w K mg base CX0 1 f fd ["size", "i"] (sp_one_row K) := by
  refine F.ok sc_one_row (fun vs H Q E h => ?_) (fun cdv A outer s H vs Q E hr h => ?_)
  · obtain ⟨n, i, rfl, hn, k⟩ := h
    rfl
  · obtain ⟨n, i, rfl, hn, k⟩ := h
    refine ⟨_, (pss_one (ps_ret (pe_comp (N' := ["j", "i"]) (cap := [none, some 1]) (by rfl) (by kernel_rfl) (pi_range1 (by rfl) T.n_range (pa_cons (pv 0) pa_nil)) (fun _ _ _ _ => (pg_name (i := 0) ndc_3 (by rfl) (by first | exact Or.inl rfl | exact Or.inr rfl))) (fun _ _ _ _ => pts_nil) (fun _ _ _ _ => (pe_ifExp (pt_cmpR op_eq (pv 0) (pv 1) (nomark _)) pe_int pe_int))))), ?_⟩
    refine ⟨_, rfl, _, rfl, by omega, by omega, fun D hD => ?_⟩
    refine comp_range0 (fun j ys τ H1 => Same H H1 ∧ H1 D = some (.lst ys) ∧ ys = VI j (fun j => if j = i then 1 else 0) ∧ ∃ o, τ = [o, some (.int i)])
      ⟨Same.new hD, upd_same, rfl, none, rfl⟩ ?_ ?_
    · rintro j ys τ H1 hj ⟨s1, hD1, rfl, o, rfl⟩
      refine ⟨_, rfl, _, rfl, rfl, _, rfl, ?_⟩
      have sz : (VI j fun j => if j = i then 1 else 0).length < sizeLine := small (by rw [VI_len]; omega)
      refine ite2 (fun h1 => ?_) (fun h1 => ?_)
      · have e0 : (0 : Int) + (j : Int) = (i : Int) := by simpa using h1
        have e : j = i := by omega
        refine ⟨hD1, sz, s1.turn hD, upd_same, ?_, _, rfl⟩
        rw [VI_succ, if_pos e]
      · have e0 : ¬ (0 : Int) + (j : Int) = (i : Int) := by simpa using h1
        have e : ¬ j = i := by omega
        refine ⟨hD1, sz, s1.turn hD, upd_same, ?_, _, rfl⟩
        rw [VI_succ, if_neg e]
    · rintro ys τ H1 ⟨s1, hD1, rfl, _⟩
      rw [Int.toNat_natCast] at hD1
      exact k D H1 hD s1 hD1
abbrev s_mixed : Stmt := top 8
theorem sc_mixed : FnScope ["a", "one", "b", "other"] ["a", "one", "b", "other"] (defScope s_mixed) := ⟨rfl, rfl, rfl, by decide +kernel, rfl, by decide +kernel, by decide +kernel⟩
theorem ok_mixed {f : Addr} {fd : FuncData} (F : Fun K "mixed" "mixed" s_mixed f fd) (T : Txt K mg)  : FnOk P w K mg base CX0 1 f fd ["a", "one", "b", "other"] (sp_mixed K) := by
  refine F.ok sc_mixed (fun vs H Q E h => ?_) (fun cdv A outer s H vs Q E hr h => ?_)
  · obtain ⟨a, b, x, y, n, p, q, rfl, hx, hy, hn, hm, k⟩ := h
    rfl
  · obtain ⟨a, b, x, y, n, p, q, rfl, hx, hy, hn, hm, k⟩ := h
    refine ⟨_, (pss_one (ps_ret (pe_comp (N' := ["left", "right", "a", "b"]) (cap := [none, none, some 0, some 2]) (by rfl) (by kernel_rfl) (pi_zip (K := K) (by rfl) T.n_zip (pa_cons (pv 1) (pa_cons (pv 3) pa_nil))) (fun _ _ _ _ => (kpg_tup (K := K) (n := 2) (by rfl) (pgs_cons (pg_name (i := 0) ndc_4 (by rfl) (by first | exact Or.inl rfl | exact Or.inr rfl)) (pgs_cons (pg_name (i := 1) ndc_4 (by rfl) (by first | exact Or.inl rfl | exact Or.inr rfl)) pgs_nil)))) (fun _ _ _ _ => pts_nil) (fun _ _ _ _ => (pe_op op_add (pe_op op_mulX (pv 2) (pv 0)) (pe_op op_mulX (pv 3) (pv 1))))))), ?_⟩
    refine ⟨_, rfl, _, rfl, x, y, rfl, ⟨_, hx⟩, ⟨_, hy⟩, fun D hD => ?_⟩
    refine comp_zip0 (K := K) (a := x) (b := y) (xs := VI n p) (ys := VI n q) (n := n) (by rw [VI_len, VI_len, Nat.min_self]) (fun i zs τ H1 => Same H H1 ∧ H1 D = some (.lst zs) ∧ zs = VI i (fun j => a * p j + b * q j) ∧ ∃ o1 o2, τ = [o1, o2, some (.int a), some (.int b)])
      ⟨Same.new hD, upd_same, rfl, none, none, rfl⟩ (fun i zs τ H1 _ ⟨s1, _⟩ => ⟨s1.seq hx, s1.seq hy⟩) ?_ ?_
    · rintro i u v zs τ H1 pr hu hv ⟨s1, hD1, rfl, o1, o2, rfl⟩ hp
      obtain ⟨hi, rfl⟩ := VI_inv hu
      obtain ⟨_, rfl⟩ := VI_inv hv
      have sp : Same H1 (upd H1 pr (.tup [.int (p i), .int (q i)])) := Same.new hp
      refine ⟨pr, _, rfl, .of upd_same, rfl, _, _, rfl, _, _, rfl, rfl, ?_⟩
      refine ⟨_, rfl, _, rfl, _, _, rfl, rfl, (hm i hi).1, _, rfl, _, rfl, _, _, rfl, rfl, (hm i hi).2, _, _, rfl, rfl, ?_⟩
      refine ⟨sp _ _ hD1, small (by rw [VI_len]; omega), (s1.trans sp).turn hD, upd_same, ?_, _, _, rfl⟩
      rw [VI_succ]
    · rintro zs τ H1 ⟨s1, hD1, rfl, _⟩
      exact k D H1 hD s1 hD1
abbrev s_number_at : Stmt := top 10
theorem sc_number_at : FnScope ["numbers", "i"] ["numbers", "i"] (defScope s_number_at) := ⟨rfl, rfl, rfl, by decide +kernel, rfl, by decide +kernel, by decide +kernel⟩
theorem ok_number_at {f : Addr} {fd : FuncData} (F : Fun K "number_at" "number_at" s_number_at f fd) (T : Txt K mg)  : FnOk P w K mg base CX0 1 f fd ["numbers", "i"] (sp_number_at K) := by
  refine F.ok sc_number_at (fun vs H Q E h => ?_) (fun cdv A outer s H vs Q E hr h => ?_)
  · obtain ⟨a, ns, i, rfl, hq, k⟩ := h
    rfl
  · obtain ⟨a, ns, i, rfl, hq, k⟩ := h
    refine ⟨_, (pss_one (ps_ret (pe_ifExp (pt_cmpR op_lt (pv 1) (pe_callB (kcall_len_seq (K := K)) (by rfl) T.n_len PySem.boot_len (pa_cons (pv 0) pa_nil)) (nomark _)) (pe_ix (kix_list (K := K)) (pv 0) (pv 1) (fun _ _ => rfl)) pe_int))), ?_⟩
    refine ⟨_, rfl, _, rfl, a, _, rfl, .inl hq, _, _, rfl, rfl, _, rfl, ?_⟩
    refine ite2 (fun h1 => ?_) (fun h1 => ?_)
    · have h2 : i < ns.length := by
        have : (i : Int) < ((ns.map V.int).length : Int) := of_decide_eq_true h1
        rw [List.length_map] at this
        omega
      refine ⟨_, rfl, _, rfl, a, _, _, _, rfl, rfl, hq, atI_nat (j := i) (by rw [List.getElem?_map, List.getElem?_eq_getElem h2]; rfl), ?_⟩
      have e : ns.getD i 0 = ns[i] := by rw [List.getD_eq_getElem?_getD, List.getElem?_eq_getElem h2]; rfl
      rw [e] at k
      exact k
    · have h2 : ¬ i < ns.length := fun z => h1 (decide_eq_true (by rw [List.length_map]; omega))
      have e : ns.getD i 0 = 0 := by rw [List.getD_eq_getElem?_getD, List.getElem?_eq_none (by omega)]; rfl
      rw [e] at k
      exact k
abbrev s_is_multiple : Stmt := top 11
theorem sc_is_multiple : FnScope ["value", "number"] ["value", "number"] (defScope s_is_multiple) := ⟨rfl, rfl, rfl, by decide +kernel, rfl, by decide +kernel, by decide +kernel⟩
theorem ok_is_multiple {f : Addr} {fd : FuncData} (F : Fun K "is_multiple" "is_multiple" s_is_multiple f fd) (T : Txt K mg)  : FnOk P w K mg base CX0 1 f fd ["value", "number"] (sp_is_multiple K) := by
  refine F.ok sc_is_multiple (fun vs H Q E h => ?_) (fun cdv A outer s H vs Q E hr h => ?_)
  · obtain ⟨v, n, rfl, hn, k⟩ := h
    rfl
  · obtain ⟨v, n, rfl, hn, k⟩ := h
    refine ⟨_, (pss_one (ps_ret (pe_ifExp (pt_cmpR op_eq (pv 1) pe_int (nomark _)) (pe_cmpR op_eq (pv 0) pe_int (nomark _)) (pe_cmpR op_eq (pe_op op_mod (pv 0) (pv 1)) pe_int (nomark _))))), ?_⟩
    refine ⟨_, rfl, rfl, _, rfl, ?_⟩
    refine ifN (by simp; omega) ?_
    refine ⟨_, rfl, _, rfl, _, _, rfl, rfl, hn, rfl, ?_⟩
    have e : decide (V.int (v % n) = V.int 0) = decide (v % n = 0) := by
      by_cases z : v % n = 0
      · rw [z]; rfl
      · rw [decide_eq_false z, decide_eq_false (fun q => z (V.int.inj q))]
    rw [e]
    exact k
abbrev s_L_whole : Stmt := top 20
theorem sc_L_whole : FnScope ["_law_found"] ["_law_found"] (defScope s_L_whole) := ⟨rfl, rfl, rfl, by decide +kernel, rfl, by decide +kernel, by decide +kernel⟩
theorem ok_L_whole {f : Addr} {fd : FuncData} (F : Fun K "_law_whole" "_law_whole" s_L_whole f fd) (T : Txt K mg)  : FnOk P w K mg base CX0 1 f fd ["_law_found"] (sp_is_wholeE K) := by
  refine F.ok sc_L_whole (fun vs H Q E h => ?_) (fun cdv A outer s H vs Q E hr h => ?_)
  · obtain ⟨x, e, rfl, hx, k⟩ := h
    rfl
  · obtain ⟨x, e, rfl, hx, k⟩ := h
    refine ⟨_, (pss_one (ps_ret (pe_and (pe_callB (call_isiT (K := K)) (by rfl) T.n_isinstance boot_isinstanceB (pa_cons (pv 0) (pa_cons (pe_bltn (v := .ty "int") rfl T.n_int boot_intT rfl) pa_nil))) (pe_one (pe_not (pe_callB (call_isiT (K := K)) (by rfl) T.n_isinstance boot_isinstanceB (pa_cons (pv 0) (pa_cons (pe_bltn (v := .ty "bool") rfl T.n_bool boot_boolT rfl) pa_nil)))))))), ?_⟩
    refine ⟨_, rfl, x, "int", .one e, rfl, .inl rfl, hx, _, rfl, ?_⟩
    refine ite2 (fun h1 => ?_) (fun h1 => ?_)
    · refine ⟨_, rfl, x, "bool", .one e, rfl, .inr (.inl rfl), hx, _, rfl, ?_⟩
      have h2 : isE "int" e = true := h1
      have e1 : wholeE e = !isE "bool" e := by
        cases e with
        | nul => exact nomatch (show false = true from h2)
        | d d => show (isD "int" d && !isD "bool" d) = _; rw [show isD "int" d = true from h2]; rfl
      rw [e1] at k
      exact k
    · have h2 : isE "int" e = false := by
        have h3 : ¬ isE "int" e = true := h1
        simpa using h3
      have e1 : wholeE e = false := by
        cases e with
        | nul => rfl
        | d d => show (isD "int" d && !isD "bool" d) = _; rw [show isD "int" d = false from h2]; rfl
      rw [e1] at k
      first | exact k | (rw [show isT "int" (.one e) = false from h2]; exact k)
abbrev s_L_cell_at : Stmt := top 21
theorem sc_L_cell_at : FnScope ["_law_script", "_law_k"] ["_law_script", "_law_k"] (defScope s_L_cell_at) := ⟨rfl, rfl, rfl, by decide +kernel, rfl, by decide +kernel, by decide +kernel⟩
theorem ok_L_cell_at {f : Addr} {fd : FuncData} (F : Fun K "_law_cell_at" "_law_cell_at" s_L_cell_at f fd) (T : Txt K mg)  : FnOk P w K mg base CX0 1 f fd ["_law_script", "_law_k"] (sp_L_cell_at K) := by
  refine F.ok sc_L_cell_at (fun vs H Q E h => ?_) (fun cdv A outer s H vs Q E hr h => ?_)
  · obtain ⟨a, ns, k, rfl, hS, h0, hl, kq⟩ := h
    rfl
  · obtain ⟨a, ns, k, rfl, hS, h0, hl, kq⟩ := h
    refine ⟨_, (pss_cons (ps_if (pt_cmpR op_lt (pv 1) (pe_callB (kcall_len_seq (K := K)) (by rfl) T.n_len PySem.boot_len (pa_cons (pv 0) pa_nil)) (nomark _)) (pss_one (ps_ret (pe_ix (kix_list (K := K)) (pv 0) (pv 1) (fun _ _ => rfl)))) pss_nil)
      (pss_one (ps_ret pe_int))), ?_⟩
    refine ⟨_, rfl, _, rfl, a, _, rfl, .inl hS, _, _, rfl, rfl, _, rfl, ?_⟩
    refine ite2 (fun h1 => ?_) (fun h1 => ?_)
    · have h2 : k < (ns.length : Int) := by simpa using h1
      have e : atI (ns.map V.int) k = some (.int (cellAt ns k)) := by
        obtain ⟨j, rfl⟩ := Int.eq_ofNat_of_zero_le h0
        refine atI_nat ?_
        have hj : j < ns.length := by omega
        rw [List.getElem?_map, List.getElem?_eq_getElem hj]
        simp [cellAt, hj]
      exact ⟨_, rfl, _, rfl, a, _, k, _, rfl, rfl, hS, e, kq⟩
    · have h2 : ¬ k < (ns.length : Int) := by simpa using h1
      have e : cellAt ns k = 0 := by
        unfold cellAt
        have : ns.length ≤ k.toNat := by omega
        simp [this]
      rw [e] at kq
      exact kq
abbrev s_L_product : Stmt := top 23
theorem sc_L_product : FnScope ["_law_one_here", "_law_other", "_law_width", "_law_found", "_law_row"] ["_law_one_here", "_law_other", "_law_width"] (defScope s_L_product) := ⟨rfl, rfl, rfl, by decide +kernel, rfl, by decide +kernel, by decide +kernel⟩
theorem nd_L_product : (["_law_one_here", "_law_other", "_law_width", "_law_found", "_law_row"] : List Str).Nodup := by decide +kernel

theorem ok_L_product {f : Addr} {fd : FuncData} (F : Fun K "_law_product" "_law_product" s_L_product f fd) (T : Txt K mg)  : FnOk P w K mg base CX0 1 f fd ["_law_one_here", "_law_other", "_law_width"] (sp_L_product K) := by
  refine F.ok sc_L_product (fun vs H Q E h => ?_) (fun cdv A outer s H vs Q E hr h => ?_)
  · obtain ⟨u, v, h, d, w, fn, gn, rfl, hu, hv, hh, hd, hw, hm, k⟩ := h
    rfl
  · obtain ⟨u, v, h, d, w, fn, gn, rfl, hu, hv, hh, hd, hw, hm, k⟩ := h
    refine ⟨_, (pss_cons (ps_set (i := 3) nd_L_product (by rfl) (by first | exact Or.inl rfl | exact Or.inr rfl) (pe_lst pa_nil))
      (pss_cons (ps_for PassesOwn.never rfl (kpi_list (K := K) (pv 0)) (pg_name (i := 4) nd_L_product (by rfl) (by first | exact Or.inl rfl | exact Or.inr rfl)) (pss_one (ps_expr (kpe_bm (K := K) PySem.F.plainAttrs_list PySem.F.slot_list_append PySem.F.type_list_append mt_append (pv 3) (pa_cons (pe_comp1 (N' := ["_law_j", "_law_row", "_law_other"]) (cap := [none, some 4, some 1]) (xc := "_law_j") (by rfl) (by kernel_rfl) (fun _ _ => rfl) (fun _ => rfl) (pi_range1 (by rfl) T.n_range (pa_cons (pv 2) pa_nil)) (fun _ _ _ _ _ => (pg_name (i := 0) ndc_10 (by rfl) (by first | exact Or.inl rfl | exact Or.inr rfl))) (fun _ _ _ _ _ => pts_nil) (fun _ _ _ _ _ => (pe_callB (kcall_sumI (K := K) (by rfl)) (by rfl) T.n_sum boot_sumB (pa_cons (pe_comp (N' := ["_law_k", "_law_row", "_law_other", "_law_j"]) (cap := [none, some 1, some 2, some 0]) (by rfl) (by kernel_rfl) (pi_range1 (by rfl) T.n_range (pa_cons (pe_callB (kcall_len_seq (K := K)) (by rfl) T.n_len PySem.boot_len (pa_cons (pv 1) pa_nil)) pa_nil)) (fun _ _ _ _ => (pg_name (i := 0) ndc_11 (by rfl) (by first | exact Or.inl rfl | exact Or.inr rfl))) (fun _ _ _ _ => pts_nil) (fun _ _ _ _ => (pe_op op_mulX (pe_ix (kix_list (K := K)) (pv 1) (pv 0) (fun _ _ => rfl)) (pe_ix (kix_list (K := K)) (pe_ix (kix_list (K := K)) (pv 2) (pv 0) (fun _ _ => rfl)) (pv 3) (fun _ _ => rfl))))) pa_nil)))) pa_nil)))))
      (pss_one (ps_ret (pv 3))))), ?_⟩
    obtain ⟨a, us, rfl, hq, hul, hrow⟩ := dT_sq hu
    obtain ⟨b, vs, rfl, hqb, hvl, hrowb⟩ := dT_sq hv
    refine ⟨Nat.zero_le _, fun D hD => ?_⟩
    refine ⟨_, rfl, a, rfl, ⟨_, (Same.new hD).seq hq⟩, ?_⟩
    refine for_list (K := K) (a := a) (xs := us) (fun i σ H1 => ∃ (as : List Addr) (o1 : Option V), σ = [some (.ref a), some (.ref b), some (.int (w : Int)), some (.ref D), o1] ∧ as.length = i ∧ Rows H H1 D as w (prodF d fn gn))
      ⟨[], none, rfl, rfl, Rows.nil hD⟩ (fun i σ H1 _ ⟨_, _, _, _, R⟩ => R.same.seq hq) ?_ ?_
    · rintro i x σ H1 hx ⟨as, o1, rfl, hal, R⟩
      obtain ⟨hi, r, rfl, hr⟩ := hrow i _ hx
      refine ⟨_, rfl, .inl ⟨rfl, _, .of R.at⟩, ?_⟩
      refine ⟨_, rfl, _, rfl, by omega, by omega, fun E hE => ?_⟩
      refine comp_range0 (fun j ys τ H2 => Same H1 H2 ∧ H2 E = some (.lst ys) ∧ ys = VI j (prodF d fn gn i) ∧ ∃ o, τ = [o, some (.ref r), some (.ref b)]) ⟨Same.new hE, upd_same, rfl, none, rfl⟩ ?_ ?_
      · rintro j ys τ H2 hj ⟨s2, hE2, rfl, o, rfl⟩
        rw [Int.toNat_natCast] at hj
        have sH := R.same.trans s2
        refine ⟨_, rfl, r, _, rfl, .inl (sH.seq hr), _, rfl, by rw [VI_len]; omega, by rw [VI_len]; omega, fun E2 hF => ?_⟩
        refine comp_range0 (fun m zs τ' H3 => Same H2 H3 ∧ H3 E2 = some (.lst zs) ∧ zs = VI m (fun k => fn i k * gn k j) ∧ ∃ o, τ' = [o, some (.ref r), some (.ref b), some (.int (0 + (j : Int)))]) ⟨Same.new hF, upd_same, rfl, none, rfl⟩ ?_ ?_
        · rintro m zs τ' H3 hmd ⟨s3, hF3, rfl, o', rfl⟩
          rw [VI_len] at hmd
          have hm2 : m < d := by omega
          obtain ⟨c, hc1, hc2⟩ : ∃ c, vs[m]? = some (.ref c) ∧ SqL K H c (VI w (gn m)) := by
            obtain ⟨_, c, e1, e2⟩ := hrowb m vs[m] (by rw [List.getElem?_eq_getElem (by omega)])
            exact ⟨c, by rw [List.getElem?_eq_getElem (by omega), e1], e2⟩
          have sF := sH.trans s3
          refine ⟨_, rfl, _, rfl, r, _, _, _, rfl, rfl, sF.seq hr, VI_at0 hm2, _, rfl, _, rfl, b, vs, _, _, rfl, rfl, sF.seq hqb, (by rw [Int.zero_add]; exact atI_nat hc1), _, rfl, c, _, _, _, rfl, rfl, sF.seq hc2, VI_at0 hj, _, _, rfl, rfl, hm i m j hi hm2 hj, ?_⟩
          refine ⟨hF3, small (by rw [VI_len]; omega), s3.turn hF, upd_same, ?_, _, rfl⟩
          rw [VI_succ]
        · rintro zs τ' H3 ⟨s3, hF3, rfl, _⟩
          rw [VI_len, Int.toNat_natCast] at hF3
          refine ⟨E2, lsI d _, rfl, .of hF3, ?_⟩
          rw [lsI_sum]
          refine ⟨s3 _ _ hE2, small (by rw [VI_len]; omega), (s2.trans s3).turn hE, upd_same, ?_, _, rfl⟩
          rw [VI_succ]
          rfl
      · rintro ys τ H2 ⟨s2, hE2, rfl, _⟩
        rw [Int.toNat_natCast] at hE2
        have hD2 : H2 D = some (.lst (as.map V.ref)) := s2 _ _ R.at
        refine ⟨D, _, _, rfl, rfl, hD2, small (by rw [List.length_map]; omega), ?_⟩
        exact ⟨as ++ [E], _, rfl, by simp [hal], R.push hE s2 (by rw [hal]; exact hE2)⟩
    · rintro σ H1 ⟨as, o1, rfl, hal, R⟩
      exact ⟨_, rfl, k D as H1 (by omega) R⟩
abbrev s_L_one : Stmt := top 24
theorem sc_L_one : FnScope ["_law_size", "_law_found", "_law_i"] ["_law_size"] (defScope s_L_one) := ⟨rfl, rfl, rfl, by decide +kernel, rfl, by decide +kernel, by decide +kernel⟩
theorem nd_L_one : (["_law_size", "_law_found", "_law_i"] : List Str).Nodup := by decide +kernel

theorem ok_L_one {f : Addr} {fd : FuncData} (F : Fun K "_law_one" "_law_one" s_L_one f fd) (T : Txt K mg)  : FnOk P w K mg base CX0 1 f fd ["_law_size"] (sp_L_one K) := by
  refine F.ok sc_L_one (fun vs H Q E h => ?_) (fun cdv A outer s H vs Q E hr h => ?_)
  · obtain ⟨n, rfl, hn, k⟩ := h
    rfl
  · obtain ⟨n, rfl, hn, k⟩ := h
    refine ⟨_, (pss_cons (ps_set (i := 1) nd_L_one (by rfl) (by first | exact Or.inl rfl | exact Or.inr rfl) (pe_lst pa_nil))
      (pss_cons (ps_for PassesOwn.never rfl (pi_range1 (by rfl) T.n_range (pa_cons (pv 0) pa_nil)) (pg_name (i := 2) nd_L_one (by rfl) (by first | exact Or.inl rfl | exact Or.inr rfl)) (pss_one (ps_expr (kpe_bm (K := K) PySem.F.plainAttrs_list PySem.F.slot_list_append PySem.F.type_list_append mt_append (pv 1) (pa_cons (pe_comp (N' := ["_law_j", "_law_i"]) (cap := [none, some 2]) (by rfl) (by kernel_rfl) (pi_range1 (by rfl) T.n_range (pa_cons (pv 0) pa_nil)) (fun _ _ _ _ => (pg_name (i := 0) ndc_12 (by rfl) (by first | exact Or.inl rfl | exact Or.inr rfl))) (fun _ _ _ _ => pts_nil) (fun _ _ _ _ => (pe_callTy call_int1 (by rfl) T.n_int boot_intT (pa_cons (pe_cmpR op_eq (pv 1) (pv 0) (nomark _)) pa_nil)))) pa_nil)))))
      (pss_one (ps_ret (pv 1))))), ?_⟩
    refine ⟨Nat.zero_le _, fun D hD => ?_⟩
    refine ⟨_, rfl, _, rfl, by omega, by omega, ?_⟩
    refine for_range (lo := 0) (n := (n : Int).toNat) (fun i σ H1 => ∃ (as : List Addr) (o1 : Option V), σ = [some (.int (n : Int)), some (.ref D), o1] ∧ as.length = i ∧ Rows H H1 D as n oneF) ⟨[], none, rfl, rfl, Rows.nil hD⟩ ?_ ?_
    · rintro i σ H1 hi ⟨as, o1, rfl, hal, R⟩
      rw [Int.toNat_natCast] at hi
      refine ⟨_, rfl, .inl ⟨rfl, _, .of R.at⟩, ?_⟩
      refine ⟨_, rfl, _, rfl, by omega, by omega, fun E hE => ?_⟩
      refine comp_range0 (fun j ys τ H2 => Same H1 H2 ∧ H2 E = some (.lst ys) ∧ ys = VI j (oneF i) ∧ ∃ o, τ = [o, some (.int (0 + (i : Int)))]) ⟨Same.new hE, upd_same, rfl, none, rfl⟩ ?_ ?_
      · rintro j ys τ H2 hj ⟨s2, hE2, rfl, o, rfl⟩
        refine ⟨_, rfl, _, rfl, rfl, .inr ⟨_, rfl, ?_⟩⟩
        refine ⟨hE2, small (by rw [VI_len]; omega), s2.turn hE, upd_same, ?_, _, rfl⟩
        rw [VI_succ]
        have e : (if decide (V.int (0 + (i : Int)) = V.int (0 + (j : Int))) = true then (1 : Int) else 0) = oneF i j := by
          unfold oneF
          by_cases z : j = i
          · subst z; simp
          · have : ¬ V.int (0 + (i : Int)) = V.int (0 + (j : Int)) := fun q => z (by have := V.int.inj q; omega)
            rw [decide_eq_false this, if_neg z]; simp
        rw [e]
      · rintro ys τ H2 ⟨s2, hE2, rfl, _⟩
        rw [Int.toNat_natCast] at hE2
        have hD2 : H2 D = some (.lst (as.map V.ref)) := s2 _ _ R.at
        refine ⟨D, _, _, rfl, rfl, hD2, small (by rw [List.length_map]; omega), ?_⟩
        exact ⟨as ++ [E], _, rfl, by simp [hal], R.push hE s2 (by rw [hal]; exact hE2)⟩
    · rintro σ H1 ⟨as, o1, rfl, hal, R⟩
      rw [Int.toNat_natCast] at hal
      exact ⟨_, rfl, k D as H1 hal R⟩
abbrev s_L_added : Stmt := top 25
theorem sc_L_added : FnScope ["_law_table", "_law_i", "_law_j", "_law_number", "_law_found"] ["_law_table", "_law_i", "_law_j", "_law_number"] (defScope s_L_added) := ⟨rfl, rfl, rfl, by decide +kernel, rfl, by decide +kernel, by decide +kernel⟩
theorem nd_L_added : (["_law_table", "_law_i", "_law_j", "_law_number", "_law_found"] : List Str).Nodup := by decide +kernel

theorem ok_L_added {f : Addr} {fd : FuncData} (F : Fun K "_law_added" "_law_added" s_L_added f fd) (T : Txt K mg)  : FnOk P w K mg base CX0 1 f fd ["_law_table", "_law_i", "_law_j", "_law_number"] (sp_L_added K) := by
  refine F.ok sc_L_added (fun vs H Q E h => ?_) (fun cdv A outer s H vs Q E hr h => ?_)
  · obtain ⟨u, h, w, i0, j0, B, n, fn, rfl, hu, hh, hw, hi0, hj0, hn, bf, hB, k⟩ := h
    rfl
  · obtain ⟨u, h, w, i0, j0, B, n, fn, rfl, hu, hh, hw, hi0, hj0, hn, bf, hB, k⟩ := h
    refine ⟨_, (pss_cons (ps_set (i := 4) nd_L_added (by rfl) (by first | exact Or.inl rfl | exact Or.inr rfl) (pe_comp (N' := ["_law_row"]) (cap := [none]) (by rfl) (by kernel_rfl) (kpi_list (K := K) (pv 0)) (fun _ _ _ _ => (pg_name (i := 0) ndc_14 (by rfl) (by first | exact Or.inl rfl | exact Or.inr rfl))) (fun _ _ _ _ => pts_nil) (fun _ _ _ _ => (pe_callTy (kcall_list_of (K := K)) (by rfl) T.n_list boot_listT (pa_cons (pv 0) pa_nil)))))
      (pss_cons (ps_asg (pe_comp (N' := ["_law_k", "_law_found", "_law_i", "_law_number", "_law_j"]) (cap := [none, some 4, some 1, some 3, some 2]) (by rfl) (by kernel_rfl) (pi_range1 (by rfl) T.n_range (pa_cons (pe_callB (kcall_len_seq (K := K)) (by rfl) T.n_len PySem.boot_len (pa_cons (pe_ix (kix_list (K := K)) (pv 4) (pv 1) (fun _ _ => rfl)) pa_nil)) pa_nil)) (fun _ _ _ _ => (pg_name (i := 0) ndc_13 (by rfl) (by first | exact Or.inl rfl | exact Or.inr rfl))) (fun _ _ _ _ => pts_nil) (fun _ _ _ _ => (pe_op op_add (pe_ix (kix_list (K := K)) (pe_ix (kix_list (K := K)) (pv 1) (pv 2) (fun _ _ => rfl)) (pv 0) (fun _ _ => rfl)) (pe_op op_mulX (pv 3) (pe_ix (kix_list (K := K)) (pe_ix (kix_list (K := K)) (pv 1) (pv 4) (fun _ _ => rfl)) (pv 0) (fun _ _ => rfl)))))) (pg_sub (pv 4) (pv 1) set_list))
      (pss_one (ps_ret (pv 4))))), ?_⟩
    obtain ⟨a, us, rfl, hq, hul, hrow⟩ := dT_sq hu
    refine tSeq_cut (fun σ' H' => ∃ (D : Addr) (as : List Addr), σ' = [some (.ref a), some (.int (i0 : Int)), some (.int (j0 : Int)), some (.int n), some (.ref D)] ∧ as.length = h ∧ Rows H H' D as w fn) ?_ fun key => ?_
    rotate_left
    · refine ⟨_, rfl, a, rfl, ⟨_, hq⟩, fun D hD => ?_⟩
      refine comp_list0 (K := K) (a := a) (xs := us) (fun i ys τ H1 => ∃ as, as.length = i ∧ ys = as.map V.ref ∧ Rows H H1 D as w fn ∧ ∃ o, τ = [o])
        ⟨[], rfl, rfl, Rows.nil hD, none, rfl⟩ (fun i ys τ H1 _ ⟨as, _, _, R, _⟩ => R.same.seq hq) ?_ ?_
      · rintro i x ys τ H1 hx ⟨as, hal, rfl, R, o, rfl⟩
        obtain ⟨hi, b, rfl, hb⟩ := hrow i _ hx
        refine ⟨_, rfl, b, _, rfl, .inl (R.same.seq hb), fun L hL => ?_⟩
        have sL : Same H1 (upd H1 L (.lst (VI w (fn i)))) := Same.new hL
        exact ⟨sL _ _ R.at, small (by rw [List.length_map]; omega), as ++ [L], by simp [hal], by rw [List.map_append]; rfl, R.push hL sL (by rw [hal]; exact upd_same), _, rfl⟩
      · rintro ys τ H1 ⟨as, hal, rfl, R, _⟩
        exact key _ _ ⟨D, as, rfl, by omega, R⟩
    rintro _ H1 ⟨D, as, rfl, hal, R⟩
    have ri : ∀ {G : Hp}, Same H1 G → ∀ i, i < h → atI (as.map V.ref) (i : Int) = some (.ref (as.getD i 0)) ∧ G (as.getD i 0) = some (.lst (VI w (fn i))) := fun {G} g i hi => by
      have e : as.getD i 0 = as[i]'(by omega) := by rw [List.getD_eq_getElem?_getD, List.getElem?_eq_getElem (by omega)]; rfl
      rw [e]
      exact ⟨atI_nat (by rw [List.getElem?_map, List.getElem?_eq_getElem (by omega)]; rfl), g _ _ (R.row i _ (List.getElem?_eq_getElem (by omega))).2.2⟩
    obtain ⟨at1, rw1⟩ := ri (Same.refl H1) i0 hi0
    refine ⟨_, rfl, _, rfl, D, _, _, _, rfl, rfl, .of R.at, at1, _, _, rfl, .inl (.of rw1), _, rfl, by rw [VI_len]; omega, by rw [VI_len]; omega, fun E hE => ?_⟩
    refine comp_range0 (fun c ys τ G => Same H1 G ∧ G E = some (.lst ys) ∧ ys = VI c (fun c => fn i0 c + n * fn j0 c) ∧ ∃ o, τ = [o, some (.ref D), some (.int (i0 : Int)), some (.int n), some (.int (j0 : Int))]) ⟨Same.new hE, upd_same, rfl, none, rfl⟩ ?_ ?_
    · rintro c ys τ G hc ⟨g, hEG, rfl, o, rfl⟩
      rw [VI_len, Int.toNat_natCast] at hc
      obtain ⟨a1, w1⟩ := ri g i0 hi0
      obtain ⟨a2, w2⟩ := ri g j0 hj0
      refine ⟨_, rfl, _, rfl, D, _, _, _, rfl, rfl, .of (g _ _ R.at), a1, _, rfl, _, _, _, _, rfl, rfl, .of w1, VI_at0 hc, _, rfl, _, rfl, _, rfl, D, _, _, _, rfl, rfl, .of (g _ _ R.at), a2, _, rfl, _, _, _, _, rfl, rfl, .of w2, VI_at0 hc, _, _, rfl, rfl, mulok hn (bf j0 c) (by omega), _, _, rfl, rfl, ?_⟩
      refine ⟨hEG, small (by rw [VI_len]; omega), g.turn hE, upd_same, ?_, _, rfl⟩
      rw [VI_succ]
    · rintro ys τ G ⟨g, hEG, rfl, _⟩
      rw [VI_len, Int.toNat_natCast] at hEG
      refine ⟨_, rfl, _, rfl, D, _, _, i0, rfl, rfl, g _ _ R.at, (by rw [List.length_map, hal]; exact ixN_lt hi0), ?_⟩
      refine ⟨_, rfl, k D (as.set i0 E) _ (by rw [List.length_set]; exact hal) ?_⟩
      refine Rows.put R (by omega) hE g ?_ (fun x hx => ?_)
      · rw [hEG]
        simp
      · funext c
        simp [hx]
abbrev s_L_columns_added : Stmt := top 26
theorem sc_L_columns_added : FnScope ["_law_table", "_law_i", "_law_j", "_law_number", "_law_found", "_law_row"] ["_law_table", "_law_i", "_law_j", "_law_number"] (defScope s_L_columns_added) := ⟨rfl, rfl, rfl, by decide +kernel, rfl, by decide +kernel, by decide +kernel⟩
theorem nd_L_columns_added : (["_law_table", "_law_i", "_law_j", "_law_number", "_law_found", "_law_row"] : List Str).Nodup := by decide +kernel

theorem ok_L_columns_added {f : Addr} {fd : FuncData} (F : Fun K "_law_columns_added" "_law_columns_added" s_L_columns_added f fd) (T : Txt K mg)  : FnOk P w K mg base CX0 1 f fd ["_law_table", "_law_i", "_law_j", "_law_number"] (sp_L_columns_added K) := by
  refine F.ok sc_L_columns_added (fun vs H Q E h => ?_) (fun cdv A outer s H vs Q E hr h => ?_)
  · obtain ⟨u, h, w, i0, j0, B, n, fn, rfl, hu, hh, hw, hj0, hn, bf, hB, k⟩ := h
    rfl
  · obtain ⟨u, h, w, i0, j0, B, n, fn, rfl, hu, hh, hw, hj0, hn, bf, hB, k⟩ := h
    refine ⟨_, (pss_cons (ps_set (i := 4) nd_L_columns_added (by rfl) (by first | exact Or.inl rfl | exact Or.inr rfl) (pe_lst pa_nil))
      (pss_cons (ps_for PassesOwn.never rfl (kpi_list (K := K) (pv 0)) (pg_name (i := 5) nd_L_columns_added (by rfl) (by first | exact Or.inl rfl | exact Or.inr rfl)) (pss_one (ps_expr (kpe_bm (K := K) PySem.F.plainAttrs_list PySem.F.slot_list_append PySem.F.type_list_append mt_append (pv 4) (pa_cons (pe_comp (N' := ["_law_k", "_law_row", "_law_number", "_law_j", "_law_i"]) (cap := [none, some 5, some 3, some 2, some 1]) (by rfl) (by kernel_rfl) (pi_range1 (by rfl) T.n_range (pa_cons (pe_callB (kcall_len_seq (K := K)) (by rfl) T.n_len PySem.boot_len (pa_cons (pv 5) pa_nil)) pa_nil)) (fun _ _ _ _ => (pg_name (i := 0) ndc_15 (by rfl) (by first | exact Or.inl rfl | exact Or.inr rfl))) (fun _ _ _ _ => pts_nil) (fun _ _ _ _ => (pe_op op_add (pe_ix (kix_list (K := K)) (pv 1) (pv 0) (fun _ _ => rfl)) (pe_op op_mulX (pe_op op_mulX (pv 2) (pe_ix (kix_list (K := K)) (pv 1) (pv 3) (fun _ _ => rfl))) (pe_callTy call_int1 (by rfl) T.n_int boot_intT (pa_cons (pe_cmpR op_eq (pv 0) (pv 4) (nomark _)) pa_nil)))))) pa_nil)))))
      (pss_one (ps_ret (pv 4))))), ?_⟩
    obtain ⟨a, us, rfl, hq, hul, hrow⟩ := dT_sq hu
    refine ⟨Nat.zero_le _, fun D hD => ?_⟩
    refine ⟨_, rfl, a, rfl, ⟨_, (Same.new hD).seq hq⟩, ?_⟩
    refine for_list (K := K) (a := a) (xs := us) (fun i σ H1 => ∃ (as : List Addr) (o1 : Option V), σ = [some (.ref a), some (.int (i0 : Int)), some (.int (j0 : Int)), some (.int n), some (.ref D), o1] ∧ as.length = i ∧ Rows H H1 D as w (fun a c => fn a c + n * fn a j0 * (if c = i0 then 1 else 0)))
      ⟨[], none, rfl, rfl, Rows.nil hD⟩ (fun i σ H1 _ ⟨_, _, _, _, R⟩ => R.same.seq hq) ?_ ?_
    · rintro i x σ H1 hx ⟨as, o1, rfl, hal, R⟩
      obtain ⟨hi, r, rfl, hr⟩ := hrow i _ hx
      refine ⟨_, rfl, .inl ⟨rfl, _, .of R.at⟩, ?_⟩
      refine ⟨_, rfl, r, _, rfl, .inl (R.same.seq hr), _, rfl, by rw [VI_len]; omega, by rw [VI_len]; omega, fun E hE => ?_⟩
      refine comp_range0 (fun c ys τ H2 => Same H1 H2 ∧ H2 E = some (.lst ys) ∧ ys = VI c (fun c => fn i c + n * fn i j0 * (if c = i0 then 1 else 0)) ∧ ∃ o, τ = [o, some (.ref r), some (.int n), some (.int (j0 : Int)), some (.int (i0 : Int))]) ⟨Same.new hE, upd_same, rfl, none, rfl⟩ ?_ ?_
      · rintro c ys τ H2 hc ⟨s2, hE2, rfl, o, rfl⟩
        rw [VI_len, Int.toNat_natCast] at hc
        have sH := R.same.trans s2
        have b1 : (n * fn i j0).natAbs < 2 ^ (10 + B) := bd_mul hn (bf i j0)
        have e : (if decide (V.int (0 + (c : Int)) = V.int (i0 : Int)) = true then (1 : Int) else 0) = (if c = i0 then 1 else 0) := by
          by_cases z : c = i0
          · subst z; simp
          · have : ¬ V.int (0 + (c : Int)) = V.int (i0 : Int) := fun q => z (by have := V.int.inj q; omega)
            rw [decide_eq_false this, if_neg z]; simp
        have b2 : (if c = i0 then (1 : Int) else 0).natAbs < 2 ^ 4 := by split <;> decide
        refine ⟨_, rfl, _, rfl, r, _, _, _, rfl, rfl, sH.seq hr, VI_at0 hc, _, rfl, _, rfl, _, rfl, r, _, _, _, rfl, rfl, sH.seq hr, VI_at hj0, _, _, rfl, rfl, mulok hn (bf i j0) (by omega), _, rfl, _, rfl, rfl, .inr ⟨_, rfl, ?_⟩⟩
        rw [e]
        refine ⟨_, _, rfl, rfl, mulok b1 b2 (by omega), _, _, rfl, rfl, ?_⟩
        refine ⟨hE2, small (by rw [VI_len]; omega), s2.turn hE, upd_same, ?_, _, rfl⟩
        rw [VI_succ]
      · rintro ys τ H2 ⟨s2, hE2, rfl, _⟩
        rw [VI_len, Int.toNat_natCast] at hE2
        have hD2 : H2 D = some (.lst (as.map V.ref)) := s2 _ _ R.at
        refine ⟨D, _, _, rfl, rfl, hD2, small (by rw [List.length_map]; omega), ?_⟩
        exact ⟨as ++ [E], _, rfl, by simp [hal], R.push hE s2 (by rw [hal]; exact hE2)⟩
    · rintro σ H1 ⟨as, o1, rfl, hal, R⟩
      exact ⟨_, rfl, k D as H1 (by omega) R⟩
abbrev s_L_other_number : Stmt := top 29
theorem sc_L_other_number : FnScope ["_law_number", "_law_cell"] ["_law_number", "_law_cell"] (defScope s_L_other_number) := ⟨rfl, rfl, rfl, by decide +kernel, rfl, by decide +kernel, by decide +kernel⟩
theorem ok_L_other_number {f : Addr} {fd : FuncData} (F : Fun K "_law_other_number" "_law_other_number" s_L_other_number f fd) (T : Txt K mg)  : FnOk P w K mg base CX0 1 f fd ["_law_number", "_law_cell"] (sp_L_other_number K) := by
  refine F.ok sc_L_other_number (fun vs H Q E h => ?_) (fun cdv A outer s H vs Q E hr h => ?_)
  · obtain ⟨x, c, B, rfl, hx, hB, k⟩ := h
    rfl
  · obtain ⟨x, c, B, rfl, hx, hB, k⟩ := h
    refine ⟨_, (pss_cons (ps_if (pt_cmpR op_lt (pe_op op_mod (pv 1) pe_int) pe_int (nomark _)) (pss_one (ps_ret (pe_ix (kix_tup (K := K)) (pe_tup (pa_cons (pe_op op_add (pv 0) pe_int) (pa_cons (pe_op op_sub pe_int (pv 0)) (pa_cons (pe_op op_mulX (pv 0) pe_int) pa_nil)))) (pe_op op_mod (pv 1) pe_int) (fun _ _ => rfl)))) pss_nil)
      (pss_one (ps_ret (pe_ix (kix_tup (K := K)) (pe_tup (pa_cons pe_bl (pa_cons pe_str (pa_cons pe_non pa_nil)))) (pe_op op_sub (pe_op op_mod (pv 1) pe_int) pe_int) (fun _ _ => rfl))))), ?_⟩
    have m0 : 0 ≤ c % 6 := Int.emod_nonneg _ (by decide)
    have m1 : c % 6 < 6 := Int.emod_lt_of_pos _ (by decide)
    refine ⟨_, rfl, _, _, rfl, rfl, (by show (0 : Int) < 6; decide), _, _, rfl, rfl, _, rfl, ?_⟩
    have up : ∀ {y : Int}, y.natAbs ≤ 2 * x.natAbs + 1 → y.natAbs < 2 ^ (B + 2) := fun {y} hy => by
      have e : 2 ^ (B + 2) = 4 * 2 ^ B := by rw [Nat.pow_add]; omega
      have p : 0 < 2 ^ B := Nat.pos_of_ne_zero (by simp)
      omega
    refine ite2 (fun h1 => ?_) (fun h1 => ?_)
    · have h2 : c % 6 < 3 := of_decide_eq_true h1
      refine ⟨_, rfl, _, _, rfl, rfl, _, rfl, _, _, rfl, rfl, _, rfl, _, _, rfl, rfl, mulok hx (show (2 : Int).natAbs < 2 ^ 4 by decide) (by omega), smallE (by simp), fun T1 hT1 => ?_⟩
      refine ⟨_, rfl, _, _, rfl, rfl, (by show (0 : Int) < 6; decide), ?_⟩
      have w3 : c % 6 = 0 ∨ c % 6 = 1 ∨ c % 6 = 2 := by omega
      rcases w3 with z | z | z
      · exact ⟨T1, _, _, .int (x + 1), rfl, rfl, .of upd_same, (by show atI _ (c % 6) = _; rw [z]; rfl), k _ (.int (x + 1)) _ (Same.new hT1) (fun _ => rfl) (up (by show (x + 1).natAbs ≤ _; omega)) (fun _ q => nomatch q)⟩
      · exact ⟨T1, _, _, .int (0 - x), rfl, rfl, .of upd_same, (by show atI _ (c % 6) = _; rw [z]; rfl), k _ (.int (0 - x)) _ (Same.new hT1) (fun _ => rfl) (up (by show (0 - x).natAbs ≤ _; omega)) (fun _ q => nomatch q)⟩
      · exact ⟨T1, _, _, .int (x * 2), rfl, rfl, .of upd_same, (by show atI _ (c % 6) = _; rw [z]; rfl), k _ (.int (x * 2)) _ (Same.new hT1) (fun _ => rfl) (up (by show (x * 2).natAbs ≤ _; omega)) (fun _ q => nomatch q)⟩
    · have h2 : ¬ c % 6 < 3 := fun z => h1 (decide_eq_true z)
      refine ⟨smallE (by simp), fun T1 hT1 => ?_⟩
      refine ⟨_, rfl, _, _, rfl, rfl, (by show (0 : Int) < 6; decide), _, _, rfl, rfl, ?_⟩
      have w3 : c % 6 = 3 ∨ c % 6 = 4 ∨ c % 6 = 5 := by omega
      rcases w3 with z | z | z
      · exact ⟨T1, _, _, .bl true, rfl, rfl, .of upd_same, (by show atI _ (c % 6 - 3) = _; rw [z]; rfl), k _ (.bl true) _ (Same.new hT1) (fun _ => rfl) (up (Nat.zero_le _)) (fun _ q => nomatch q)⟩
      · exact ⟨T1, _, _, .str (Str.ofString "1"), rfl, rfl, .of upd_same, (by show atI _ (c % 6 - 3) = _; rw [z]; rfl), k _ (.str (Str.ofString "1")) _ (Same.new hT1) (fun _ => rfl) (up (Nat.zero_le _)) (fun _ q => nomatch q)⟩
      · exact ⟨T1, _, _, .non, rfl, rfl, .of upd_same, (by show atI _ (c % 6 - 3) = _; rw [z]; rfl), k _ .non _ (Same.new hT1) (fun _ => rfl) (up (Nat.zero_le _)) (fun _ q => nomatch q)⟩
abbrev s_L_odd : Stmt := top 30
theorem sc_L_odd : FnScope ["_law_papers", "_law_which", "_law_at", "_law_one_here", "_law_odd_here"] ["_law_papers", "_law_which", "_law_at"] (defScope s_L_odd) := ⟨rfl, rfl, rfl, by decide +kernel, rfl, by decide +kernel, by decide +kernel⟩
theorem nd_L_odd : (["_law_papers", "_law_which", "_law_at", "_law_one_here", "_law_odd_here"] : List Str).Nodup := by decide +kernel

theorem ok_L_odd {f : Addr} {fd : FuncData} (F : Fun K "_law_odd" "_law_odd" s_L_odd f fd) (T : Txt K mg)  : FnOk P w K mg base CX0 1 f fd ["_law_papers", "_law_which", "_law_at"] (sp_L_odd66 K) := by
  refine F.ok sc_L_odd (fun vs H Q E h => ?_) (fun cdv A outer s H vs Q E hr h => ?_)
  · obtain ⟨a, ps, dss, i, B, at_, rfl, hq, V5, hi, hB, k⟩ := h
    rfl
  · obtain ⟨a, ps, dss, i, B, at_, rfl, hq, V5, hi, hB, k⟩ := h
    refine ⟨_, (pss_cons (ps_set (i := 3) nd_L_odd (by rfl) (by first | exact Or.inl rfl | exact Or.inr rfl) (pe_ix (kix_list (K := K)) (pv 0) (pv 1) (fun _ _ => rfl)))
      (pss_cons (ps_set (i := 4) nd_L_odd (by rfl) (by first | exact Or.inl rfl | exact Or.inr rfl) (PEw.h (pe_ixTw (K := K) (paw_cons pe_non (paw_cons (pe_tup pa_nil) (paw_cons pe_int (paw_cons pe_str (paw_cons pe_dnewK (paw_cons (pe_callTy (kcall_tuple_of (K := K)) (by rfl) T.n_tuple boot_tupleT (pa_cons (pv 3) pa_nil)) (paw_cons (pe_lst (pa_cons pe_non pa_nil)) (paw_cons pe_bl paw_nil)))))))) (pe_op op_mod (pe_op op_fdiv (pv 2) pe_int) pe_int) (fun _ _ => rfl))))
      (pss_cons (ps_if (pt_cmpR op_eq (pe_op op_mod (pv 2) pe_int) pe_int (nomark _)) (pss_one (ps_ret (pe_callTy (kcall_tuple_of (K := K)) (by rfl) T.n_tuple boot_tupleT (pa_cons (pe_op (kop_catLW (K := K)) (pe_op (kop_catLW (K := K)) (pe_slice (ksl_list (K := K)) (pv 0) po_none (po_some (pv 1))) (pe_lst (pa_cons (pv 4) pa_nil))) (pe_slice (ksl_list (K := K)) (pv 0) (po_some (pe_op op_add (pv 1) pe_int)) po_none)) pa_nil)))) pss_nil)
      (pss_one (ps_ret (pe_callTy (kcall_tuple_of (K := K)) (by rfl) T.n_tuple boot_tupleT (pa_cons (pe_op (kop_catLW (K := K)) (pe_op (kop_catLW (K := K)) (pe_slice (ksl_list (K := K)) (pv 0) po_none (po_some (pv 1))) (pe_lst (pa_cons (pe_op (kop_catLW (K := K)) (pe_slice (ksl_list (K := K)) (pv 3) po_none (po_some (pe_un un_neg pe_int))) (pe_lst (pa_cons (pv 4) pa_nil))) pa_nil))) (pe_slice (ksl_list (K := K)) (pv 0) (po_some (pe_op op_add (pv 1) pe_int)) po_none)) pa_nil))))))), ?_⟩
    obtain ⟨b, us, ds, e1, e2, hb, hr, hp⟩ := V5.at hi
    refine tSeq_cut (fun σ' H' => σ' = [some (.ref a), some (.int (i : Int)), some (.int at_), some (.ref b), none] ∧ H = H') ?_ fun key => ?_
    rotate_left
    · exact ⟨_, rfl, _, rfl, a, _, _, _, rfl, rfl, hq, atI_nat e1, key _ _ ⟨rfl, rfl⟩⟩
    rintro _ _ ⟨rfl, rfl⟩
    refine tSeq_cut (fun σ' H' => ∃ (v : V) (e : DE), σ' = [some (.ref a), some (.int (i : Int)), some (.int at_), some (.ref b), some v] ∧ Same H H' ∧ RepE K H' v e ∧ bdE B e ∧ ∀ ds, e = .d (.lst ds) → ∀ d ∈ ds, bdE B (.d d)) ?_ fun key => ?_
    rotate_left
    · refine ⟨Nat.zero_le _, fun P0 hP0 => ?_⟩
      have sG1 : Same H (upd H P0 (.tup [])) := Same.new hP0
      have eG1 : upd H P0 (.tup []) P0 = some (.tup []) := upd_same
      generalize upd H P0 (.tup []) = G1 at sG1 eG1
      intro P1 hP1
      have sG2 : Same G1 (upd G1 P1 (.dK [])) := Same.new hP1
      have eG2 : upd G1 P1 (.dK []) P1 = some (.dK []) := upd_same
      generalize upd G1 P1 (.dK []) = G2 at sG2 eG2
      refine ⟨_, rfl, b, us, rfl, .inl ⟨(sG1.trans sG2).seq hb, fun P2 hP2 => ?_⟩⟩
      have sG3 : Same G2 (upd G2 P2 (.tup us)) := Same.new hP2
      have eG3 : upd G2 P2 (.tup us) P2 = some (.tup us) := upd_same
      generalize upd G2 P2 (.tup us) = G3 at sG3 eG3
      refine ⟨smallE (by simp), fun P3 hP3 => ?_⟩
      have sG4 : Same G3 (upd G3 P3 (.lst [.non])) := Same.new hP3
      have eG4 : upd G3 P3 (.lst [.non]) P3 = some (.lst [.non]) := upd_same
      generalize upd G3 P3 (.lst [.non]) = G4 at sG4 eG4
      have s04 : Same H G4 := sG1.trans (sG2.trans (sG3.trans sG4))
      refine ⟨smallE (by simp), fun P4 hP4 => ?_⟩
      have sq : ∀ o, Same G4 (upd G4 P4 o) := fun _ => Same.new hP4
      have mm : at_ / 2 % 8 = 0 ∨ at_ / 2 % 8 = 1 ∨ at_ / 2 % 8 = 2 ∨ at_ / 2 % 8 = 3 ∨ at_ / 2 % 8 = 4 ∨ at_ / 2 % 8 = 5 ∨ at_ / 2 % 8 = 6 ∨ at_ / 2 % 8 = 7 := by omega
      refine ⟨_, rfl, _, _, rfl, rfl, ⟨by decide, by decide⟩, _, _, rfl, rfl, (by decide : (0 : Int) < 8), ?_⟩
      rcases mm with z | z | z | z | z | z | z | z
      · refine ⟨P4, _, _, .non, rfl, rfl, .of upd_same, by rw [z]; rfl, ?_⟩
        exact key _ _ ⟨_, .d .non, rfl, s04.trans (sq _), rfl, trivial, (fun _ z => nomatch z)⟩
      · refine ⟨P4, _, _, .ref P0, rfl, rfl, .of upd_same, by rw [z]; rfl, ?_⟩
        exact key _ _ ⟨_, .d (.tup []), rfl, s04.trans (sq _), ⟨P0, [], rfl, .of (sq _ _ _ (sG4 _ _ (sG3 _ _ (sG2 _ _ eG1)))), rfl⟩, trivial, (fun _ z => nomatch z)⟩
      · refine ⟨P4, _, _, .int 7, rfl, rfl, .of upd_same, by rw [z]; rfl, ?_⟩
        exact key _ _ ⟨_, .d (.int 7), rfl, s04.trans (sq _), rfl, trivial, (fun _ z => nomatch z)⟩
      · refine ⟨P4, _, _, .str (Str.ofString ""), rfl, rfl, .of upd_same, by rw [z]; rfl, ?_⟩
        exact key _ _ ⟨_, .d (.str (Str.ofString "")), rfl, s04.trans (sq _), rfl, trivial, (fun _ z => nomatch z)⟩
      · refine ⟨P4, _, _, .ref P1, rfl, rfl, .of upd_same, by rw [z]; rfl, ?_⟩
        exact key _ _ ⟨_, .nul, rfl, s04.trans (sq _), ⟨P1, rfl, .inl (sq _ _ _ (sG4 _ _ (sG3 _ _ eG2)))⟩, trivial, (fun _ z => nomatch z)⟩
      · refine ⟨P4, _, _, .ref P2, rfl, rfl, .of upd_same, by rw [z]; rfl, ?_⟩
        exact key _ _ ⟨_, .d (.tup ds), rfl, s04.trans (sq _), ⟨P2, us, rfl, .of (sq _ _ _ (sG4 _ _ eG3)), Reps.same (s04.trans (sq _)) hr⟩, trivial, (fun _ z => nomatch z)⟩
      · refine ⟨P4, _, _, .ref P3, rfl, rfl, .of upd_same, by rw [z]; rfl, ?_⟩
        exact key _ _ ⟨_, .d (.lst [.non]), rfl, s04.trans (sq _), ⟨P3, _, rfl, .of (sq _ _ _ eG4), _, _, rfl, rfl, rfl⟩, ⟨by show 1 ≤ 1000; decide, fun d hd => by rw [List.mem_singleton.mp hd]; exact Nat.pow_pos (by decide)⟩, (fun ds z d hd => by cases z; rw [List.mem_singleton.mp hd]; trivial)⟩
      · refine ⟨P4, _, _, .bl true, rfl, rfl, .of upd_same, by rw [z]; rfl, ?_⟩
        exact key _ _ ⟨_, .d (.bl true), rfl, s04.trans (sq _), rfl, trivial, (fun _ z => nomatch z)⟩
    rintro _ H1 ⟨v, e, rfl, s1, he, hbe, hne⟩
    refine tSeq_cut (fun σ' H' => σ' = [some (.ref a), some (.int (i : Int)), some (.int at_), some (.ref b), some v] ∧ H1 = H') ?_ fun key => ?_
    rotate_left
    · refine ⟨_, rfl, _, _, rfl, rfl, (by show (0 : Int) < 2; decide), rfl, _, rfl, ?_⟩
      refine ite2 (fun h1 => ?_) (fun h1 => ?_)
      · obtain ⟨t, ht, hto⟩ := okT_of he hbe hne
        refine ⟨_, rfl, _, rfl, _, rfl, a, _, rfl, s1.seq hq, fun Q1 hQ1 => ?_⟩
        rw [cut_take]
        have sK1 : Same H1 (upd H1 Q1 (.lst (ps.take i))) := Same.new hQ1
        have eK1 : upd H1 Q1 (.lst (ps.take i)) Q1 = some (.lst (ps.take i)) := upd_same
        generalize upd H1 Q1 (.lst (ps.take i)) = K1 at sK1 eK1
        have eQ1 := eK1
        have sX : Same H K1 := s1.trans sK1
        refine ⟨_, rfl, ?_⟩
        
        refine ⟨smallE (by simp), fun Q2 hQ2 => ?_⟩
        have sK2 : Same K1 (upd K1 Q2 (.lst [v])) := Same.new hQ2
        have eK2 : upd K1 Q2 (.lst [v]) Q2 = some (.lst [v]) := upd_same
        generalize upd K1 Q2 (.lst [v]) = K2 at sK2 eK2
        refine ⟨Q1, Q2, _, _, rfl, rfl, .of (sK2 _ _ eQ1), .of eK2, smallE (by simp only [List.length_append, List.length_take, List.length_drop, List.length_cons, List.length_nil, V5.n5]; omega), fun Q3 hQ3 => ?_⟩
        have sK3 : Same K2 (upd K2 Q3 (.lst (ps.take i ++ [v]))) := Same.new hQ3
        have eK3 : upd K2 Q3 (.lst (ps.take i ++ [v])) Q3 = some (.lst (ps.take i ++ [v])) := upd_same
        generalize upd K2 Q3 (.lst (ps.take i ++ [v])) = K3 at sK3 eK3
        refine ⟨_, rfl, _, rfl, _, _, rfl, rfl, _, rfl, a, _, rfl, (sX.trans (sK2.trans sK3)).seq hq, fun Q4 hQ4 => ?_⟩
        rw [show cutV ps (some ((i : Int) + 1)) none = ps.drop (i + 1) by rw [show (i : Int) + 1 = ((i + 1 : Nat) : Int) by omega]; exact cut_drop ps (i + 1)]
        have sK4 : Same K3 (upd K3 Q4 (.lst (ps.drop (i + 1)))) := Same.new hQ4
        have eK4 : upd K3 Q4 (.lst (ps.drop (i + 1))) Q4 = some (.lst (ps.drop (i + 1))) := upd_same
        generalize upd K3 Q4 (.lst (ps.drop (i + 1))) = K4 at sK4 eK4
        refine ⟨Q3, Q4, _, _, rfl, rfl, .of (sK4 _ _ eK3), .of eK4, smallE (by simp only [List.length_append, List.length_take, List.length_drop, List.length_cons, List.length_nil, V5.n5]; omega), fun Q5 hQ5 => ?_⟩
        have sK5 : Same K4 (upd K4 Q5 (.lst (ps.take i ++ [v] ++ ps.drop (i + 1)))) := Same.new hQ5
        have eK5 : upd K4 Q5 (.lst (ps.take i ++ [v] ++ ps.drop (i + 1))) Q5 = some (.lst (ps.take i ++ [v] ++ ps.drop (i + 1))) := upd_same
        generalize upd K4 Q5 (.lst (ps.take i ++ [v] ++ ps.drop (i + 1))) = K5 at sK5 eK5
        refine ⟨Q5, _, rfl, .inl ⟨.of eK5, fun Q6 hQ6 => ?_⟩⟩
        have sK6 : Same K5 (upd K5 Q6 (.tup (ps.take i ++ [v] ++ ps.drop (i + 1)))) := Same.new hQ6
        have eK6 : upd K5 Q6 (.tup (ps.take i ++ [v] ++ ps.drop (i + 1))) Q6 = some (.tup (ps.take i ++ [v] ++ ps.drop (i + 1))) := upd_same
        generalize upd K5 Q6 (.tup (ps.take i ++ [v] ++ ps.drop (i + 1))) = K6 at sK6 eK6
        have s26 : Same K1 K6 := sK2.trans (sK3.trans (sK4.trans (sK5.trans sK6)))
        have sA : Same H K6 := sX.trans s26
        have V6 := V5.same sA
        refine k (.ref Q6) (.tup ((dss.map thD).take i ++ [t] ++ (dss.map thD).drop (i + 1))) K6 sA ⟨Q6, _, rfl, eK6, (RepsT.app (V6.reps.take i) (show RepsT K K6 [v] [t] from ⟨RepT.same s26 (RepT.same sK1 ht), trivial⟩)).app (V6.reps.drop (i + 1))⟩ ⟨by simp only [List.length_append, List.length_take, List.length_drop, List.length_cons, List.length_nil, List.length_map, V5.len]; omega, fun t0 ht0 => ?_⟩
        rcases List.mem_append.mp ht0 with ht0 | ht0
        · rcases List.mem_append.mp ht0 with ht0 | ht0
          · exact V6.okT t0 (List.mem_of_mem_take ht0)
          · rw [List.mem_singleton.mp ht0]
            exact hto
        · exact V6.okT t0 (List.mem_of_mem_drop ht0)
      · exact key _ _ ⟨rfl, rfl⟩
    rintro _ _ ⟨rfl, rfl⟩
    refine ⟨_, rfl, _, rfl, _, rfl, a, _, rfl, s1.seq hq, fun Q1 hQ1 => ?_⟩
    rw [cut_take]
    have sK1 : Same H1 (upd H1 Q1 (.lst (ps.take i))) := Same.new hQ1
    have eK1 : upd H1 Q1 (.lst (ps.take i)) Q1 = some (.lst (ps.take i)) := upd_same
    generalize upd H1 Q1 (.lst (ps.take i)) = K1 at sK1 eK1
    refine ⟨_, rfl, _, rfl, _, rfl, b, _, rfl, (s1.trans sK1).seq hb, fun U1 hU1 => ?_⟩
    obtain ⟨cs, hcs, hcl, hcm⟩ := (RepsE.of (Reps.same (s1.trans sK1) hr)).cut none (some (-1))
    have hcl2 : cs.length ≤ 3 := by rw [List.length_map] at hcl; have := hp.len; omega
    have hcv := hcs.len
    have sM1 : Same K1 (upd K1 U1 (.lst (cutV us none (some (-1))))) := Same.new hU1
    have eM1 : upd K1 U1 (.lst (cutV us none (some (-1)))) U1 = some (.lst (cutV us none (some (-1)))) := upd_same
    generalize upd K1 U1 (.lst (cutV us none (some (-1)))) = M1 at sM1 eM1
    refine ⟨_, rfl, smallE (by simp), fun U2 hU2 => ?_⟩
    have sM2 : Same M1 (upd M1 U2 (.lst [v])) := Same.new hU2
    have eM2 : upd M1 U2 (.lst [v]) U2 = some (.lst [v]) := upd_same
    generalize upd M1 U2 (.lst [v]) = M2 at sM2 eM2
    refine ⟨U1, U2, _, _, rfl, rfl, .of (sM2 _ _ eM1), .of eM2, smallE (by rw [hcv]; simp; omega), fun U3 hU3 => ?_⟩
    have sM3 : Same M2 (upd M2 U3 (.lst (cutV us none (some (-1)) ++ [v]))) := Same.new hU3
    have eM3 : upd M2 U3 (.lst (cutV us none (some (-1)) ++ [v])) U3 = some (.lst (cutV us none (some (-1)) ++ [v])) := upd_same
    generalize upd M2 U3 (.lst (cutV us none (some (-1)) ++ [v])) = M3 at sM3 eM3
    have sM : Same K1 M3 := sM1.trans (sM2.trans sM3)
    have sX : Same H M3 := s1.trans (sK1.trans sM)
    have eQ1 := sM _ _ eK1
    have ht : RepT K M3 (.ref U3) (.rows (cs ++ [e])) := ⟨U3, _, rfl, .of eM3, RepsE.app (RepsE.same sM hcs) ⟨RepE.same (sK1.trans sM) he, trivial⟩⟩
    have hto : okT B (.rows (cs ++ [e])) := okT_rows (by simp; omega) fun x hx => by
      rcases List.mem_append.mp hx with hx | hx
      · obtain ⟨d, hd, rfl⟩ := List.mem_map.mp (hcm x hx)
        exact hp.each d hd
      · rw [List.mem_singleton.mp hx]
        exact hbe
    
    refine ⟨smallE (by simp), fun Q2 hQ2 => ?_⟩
    have sK2 : Same M3 (upd M3 Q2 (.lst [.ref U3])) := Same.new hQ2
    have eK2 : upd M3 Q2 (.lst [.ref U3]) Q2 = some (.lst [.ref U3]) := upd_same
    generalize upd M3 Q2 (.lst [.ref U3]) = K2 at sK2 eK2
    refine ⟨Q1, Q2, _, _, rfl, rfl, .of (sK2 _ _ eQ1), .of eK2, smallE (by simp only [List.length_append, List.length_take, List.length_drop, List.length_cons, List.length_nil, V5.n5]; omega), fun Q3 hQ3 => ?_⟩
    have sK3 : Same K2 (upd K2 Q3 (.lst (ps.take i ++ [.ref U3]))) := Same.new hQ3
    have eK3 : upd K2 Q3 (.lst (ps.take i ++ [.ref U3])) Q3 = some (.lst (ps.take i ++ [.ref U3])) := upd_same
    generalize upd K2 Q3 (.lst (ps.take i ++ [.ref U3])) = K3 at sK3 eK3
    refine ⟨_, rfl, _, rfl, _, _, rfl, rfl, _, rfl, a, _, rfl, (sX.trans (sK2.trans sK3)).seq hq, fun Q4 hQ4 => ?_⟩
    rw [show cutV ps (some ((i : Int) + 1)) none = ps.drop (i + 1) by rw [show (i : Int) + 1 = ((i + 1 : Nat) : Int) by omega]; exact cut_drop ps (i + 1)]
    have sK4 : Same K3 (upd K3 Q4 (.lst (ps.drop (i + 1)))) := Same.new hQ4
    have eK4 : upd K3 Q4 (.lst (ps.drop (i + 1))) Q4 = some (.lst (ps.drop (i + 1))) := upd_same
    generalize upd K3 Q4 (.lst (ps.drop (i + 1))) = K4 at sK4 eK4
    refine ⟨Q3, Q4, _, _, rfl, rfl, .of (sK4 _ _ eK3), .of eK4, smallE (by simp only [List.length_append, List.length_take, List.length_drop, List.length_cons, List.length_nil, V5.n5]; omega), fun Q5 hQ5 => ?_⟩
    have sK5 : Same K4 (upd K4 Q5 (.lst (ps.take i ++ [.ref U3] ++ ps.drop (i + 1)))) := Same.new hQ5
    have eK5 : upd K4 Q5 (.lst (ps.take i ++ [.ref U3] ++ ps.drop (i + 1))) Q5 = some (.lst (ps.take i ++ [.ref U3] ++ ps.drop (i + 1))) := upd_same
    generalize upd K4 Q5 (.lst (ps.take i ++ [.ref U3] ++ ps.drop (i + 1))) = K5 at sK5 eK5
    refine ⟨Q5, _, rfl, .inl ⟨.of eK5, fun Q6 hQ6 => ?_⟩⟩
    have sK6 : Same K5 (upd K5 Q6 (.tup (ps.take i ++ [.ref U3] ++ ps.drop (i + 1)))) := Same.new hQ6
    have eK6 : upd K5 Q6 (.tup (ps.take i ++ [.ref U3] ++ ps.drop (i + 1))) Q6 = some (.tup (ps.take i ++ [.ref U3] ++ ps.drop (i + 1))) := upd_same
    generalize upd K5 Q6 (.tup (ps.take i ++ [.ref U3] ++ ps.drop (i + 1))) = K6 at sK6 eK6
    have s26 : Same M3 K6 := sK2.trans (sK3.trans (sK4.trans (sK5.trans sK6)))
    have sA : Same H K6 := sX.trans s26
    have V6 := V5.same sA
    refine k (.ref Q6) (.tup ((dss.map thD).take i ++ [.rows (cs ++ [e])] ++ (dss.map thD).drop (i + 1))) K6 sA ⟨Q6, _, rfl, eK6, (RepsT.app (V6.reps.take i) (show RepsT K K6 [.ref U3] [.rows (cs ++ [e])] from ⟨RepT.same s26 (ht), trivial⟩)).app (V6.reps.drop (i + 1))⟩ ⟨by simp only [List.length_append, List.length_take, List.length_drop, List.length_cons, List.length_nil, List.length_map, V5.len]; omega, fun t0 ht0 => ?_⟩
    rcases List.mem_append.mp ht0 with ht0 | ht0
    · rcases List.mem_append.mp ht0 with ht0 | ht0
      · exact V6.okT t0 (List.mem_of_mem_take ht0)
      · rw [List.mem_singleton.mp ht0]
        exact hto
    · exact V6.okT t0 (List.mem_of_mem_drop ht0)
abbrev s_is_list_of_wholes : Stmt := top 3
theorem sc_is_list_of_wholes : FnScope ["thing", "many"] ["thing", "many"] (defScope s_is_list_of_wholes) := ⟨rfl, rfl, rfl, by decide +kernel, rfl, by decide +kernel, by decide +kernel⟩
theorem ok_is_list_of_wholes {f : Addr} {fd : FuncData} (F : Fun K "is_list_of_wholes" "is_list_of_wholes" s_is_list_of_wholes f fd) (T : Txt K mg) (h_is_whole : Has P w K mg base "is_whole" ["thing"] 1 (sp_is_wholeE K)) : FnOk P w K mg base CX0 2 f fd ["thing", "many"] (sp_list_of_wholesT K) := by
  refine F.ok sc_is_list_of_wholes (fun vs H Q E h => ?_) (fun cdv A outer s H vs Q E hr h => ?_)
  · obtain ⟨v, t, w, rfl, hv, hz, k⟩ := h
    rfl
  · obtain ⟨v, t, w, rfl, hv, hz, k⟩ := h
    refine ⟨_, (pss_one (ps_ret (pe_and (pe_callB (call_isiT (K := K)) (by rfl) T.n_isinstance boot_isinstanceB (pa_cons (pv 0) (pa_cons (pe_bltn (v := .ty "list") rfl T.n_list boot_listT rfl) pa_nil))) (pe_and (pe_cmpR op_eq (pe_callB (kcall_len_seq (K := K)) (by rfl) T.n_len PySem.boot_len (pa_cons (pv 0) pa_nil)) (pv 1) (nomark _)) (pe_one (pe_callB (kcall_allB (K := K) (by rfl)) (by rfl) T.n_all boot_allB (pa_cons (pe_comp (N' := ["number"]) (cap := [none]) (by rfl) (by kernel_rfl) (kpi_list (K := K) (pv 0)) (fun _ _ _ _ => (pg_name (i := 0) ndc_0 (by rfl) (by first | exact Or.inl rfl | exact Or.inr rfl))) (fun _ _ _ _ => pts_nil) (fun _ _ _ _ => (pe_callH h_is_whole hr (by rfl) (pa_cons (pv 0) pa_nil)))) pa_nil))))))), ?_⟩
    refine ⟨_, rfl, v, "list", t, rfl, .inr (.inr (.inr (.inr (.inl rfl)))), hv, _, rfl, ?_⟩
    rcases list_alt w hv hz with ⟨a, vs, es, rfl, hq, hr, hl1, hrow, hlist⟩ | ⟨hlist, hrow⟩
    · refine ifP hlist ?_
      have hl : vs.length = es.length := hr.len
      refine ⟨_, rfl, a, _, rfl, .inl hq, _, rfl, rfl, _, rfl, ?_⟩
      refine ite2 (fun h2 => ?_) (fun h2 => ?_)
      · refine ⟨_, rfl, a, rfl, ⟨_, hq⟩, fun D hD => ?_⟩
        refine comp_list0 (K := K) (a := a) (xs := vs) (fun i ys τ H1 => Same H H1 ∧ H1 D = some (.lst ys) ∧ ys = ((es.take i).map wholeE).map V.bl ∧ ∃ o, τ = [o])
          ⟨Same.new hD, upd_same, rfl, none, rfl⟩ (fun i ys τ H1 _ ⟨s1, _⟩ => s1.seq hq) ?_ ?_
        · rintro i x ys τ H1 hx ⟨s1, hD1, rfl, o, rfl⟩
          obtain ⟨e, he, hxe⟩ := hr.get hx
          refine ⟨_, rfl, _, e, rfl, RepE.same s1 hxe, hD1, small (by simp; omega), s1.turn hD, upd_same, ?_, _, rfl⟩
          rw [take_all he, List.map_append]
          rfl
        · rintro ys τ H1 ⟨s1, hD1, rfl, _⟩
          refine ⟨D, (es.take vs.length).map wholeE, rfl, .of hD1, ?_⟩
          have e1 : (es.length : Int) = w := by simpa [hl] using h2
          have k1 := k H1 s1
          rw [hrow, decide_eq_true e1, Bool.true_and] at k1
          rw [hl, List.take_length, all_map]
          exact k1
      · have e1 : ¬ (es.length : Int) = w := by simpa [hl] using h2
        have k1 := k H (Same.refl H)
        rw [hrow, decide_eq_false e1, Bool.false_and] at k1
        have e3 : decide (V.int vs.length = V.int w) = false := by simpa using h2
        first | (rw [e3]; exact k1) | exact k1
    · refine ifN (by rw [hlist]; decide) ?_
      have k1 := k H (Same.refl H)
      rw [hrow] at k1
      first | (rw [hlist]; exact k1) | exact k1
abbrev s_ones : Stmt := top 5
theorem sc_ones : FnScope ["size"] ["size"] (defScope s_ones) := ⟨rfl, rfl, rfl, by decide +kernel, rfl, by decide +kernel, by decide +kernel⟩
theorem ok_ones {f : Addr} {fd : FuncData} (F : Fun K "ones" "ones" s_ones f fd) (T : Txt K mg) (h_one_row : Has P w K mg base "one_row" ["size", "i"] 1 (sp_one_row K)) : FnOk P w K mg base CX0 2 f fd ["size"] (sp_ones K) := by
  refine F.ok sc_ones (fun vs H Q E h => ?_) (fun cdv A outer s H vs Q E hr h => ?_)
  · obtain ⟨n, rfl, hn, k⟩ := h
    rfl
  · obtain ⟨n, rfl, hn, k⟩ := h
    refine ⟨_, (pss_one (ps_ret (pe_comp (N' := ["i", "size"]) (cap := [none, some 0]) (by rfl) (by kernel_rfl) (pi_range1 (by rfl) T.n_range (pa_cons (pv 0) pa_nil)) (fun _ _ _ _ => (pg_name (i := 0) ndc_2 (by rfl) (by first | exact Or.inl rfl | exact Or.inr rfl))) (fun _ _ _ _ => pts_nil) (fun _ _ _ _ => (pe_callH h_one_row hr (by rfl) (pa_cons (pv 1) (pa_cons (pv 0) pa_nil))))))), ?_⟩
    refine ⟨_, rfl, _, rfl, by omega, by omega, fun D hD => ?_⟩
    refine comp_range0 (fun i ys τ H1 => ∃ as, as.length = i ∧ ys = as.map V.ref ∧ Rows H H1 D as n (fun i j => if j = i then 1 else 0) ∧ ∃ o, τ = [o, some (.int n)])
      ⟨[], rfl, rfl, Rows.nil hD, none, rfl⟩ ?_ ?_
    · rintro i ys τ H1 hi ⟨as, hal, rfl, R, o, rfl⟩
      refine ⟨_, rfl, _, rfl, n, i, by rw [Int.zero_add] <;> rfl, hn, fun D2 H2 hD2 s2 h2 => ?_⟩
      exact ⟨s2 _ _ R.at, small (by rw [List.length_map]; omega), as ++ [D2], by simp [hal], by rw [List.map_append]; rfl, R.push hD2 s2 (by rw [hal]; exact h2), _, rfl⟩
    · rintro ys τ H1 ⟨as, hal, rfl, R, _⟩
      exact k D as H1 (by omega) R
abbrev s_list_times : Stmt := top 7
theorem sc_list_times : FnScope ["numbers", "table", "width", "told", "number", "row"] ["numbers", "table", "width"] (defScope s_list_times) := ⟨rfl, rfl, rfl, by decide +kernel, rfl, by decide +kernel, by decide +kernel⟩
theorem nd_list_times : (["numbers", "table", "width", "told", "number", "row"] : List Str).Nodup := by decide +kernel

theorem ok_list_times {f : Addr} {fd : FuncData} (F : Fun K "list_times" "list_times" s_list_times f fd) (T : Txt K mg) (h_mixed : Has P w K mg base "mixed" ["a", "one", "b", "other"] 1 (sp_mixed K)) : FnOk P w K mg base CX0 2 f fd ["numbers", "table", "width"] (sp_list_times K) := by
  refine F.ok sc_list_times (fun vs H Q E h => ?_) (fun cdv A outer s H vs Q E hr h => ?_)
  · obtain ⟨x, v, h, w, a, f, rfl, hx, hv, hh, hw, hm, k⟩ := h
    rfl
  · obtain ⟨x, v, h, w, a, f, rfl, hx, hv, hh, hw, hm, k⟩ := h
    refine ⟨_, (pss_cons (ps_set (i := 3) nd_list_times (by rfl) (by first | exact Or.inl rfl | exact Or.inr rfl) (pe_op op_rep (pe_lst (pa_cons pe_int pa_nil)) (pv 2)))
      (pss_cons (ps_for PassesOwn.never rfl (pi_zip (K := K) (by rfl) T.n_zip (pa_cons (pv 0) (pa_cons (pv 1) pa_nil))) (kpg_tup (K := K) (n := 2) (by rfl) (pgs_cons (pg_name (i := 4) nd_list_times (by rfl) (by first | exact Or.inl rfl | exact Or.inr rfl)) (pgs_cons (pg_name (i := 5) nd_list_times (by rfl) (by first | exact Or.inl rfl | exact Or.inr rfl)) pgs_nil))) (pss_one (ps_set (i := 3) nd_list_times (by rfl) (by first | exact Or.inl rfl | exact Or.inr rfl) (pe_callH h_mixed hr (by rfl) (pa_cons pe_int (pa_cons (pv 3) (pa_cons (pv 4) (pa_cons (pv 5) pa_nil))))))))
      (pss_one (ps_ret (pv 3))))), ?_⟩
    obtain ⟨tb, us, rfl, hq, hul, hrow⟩ := dT_sq hv
    refine tSeq_cut (fun σ' H' => ∃ T, σ' = [some (.ref x), some (.ref tb), some (.int w), some (.ref T), none, none] ∧ H T = none ∧ Same H H' ∧ H' T = some (.lst (VI w fun _ => 0))) ?_ fun key => ?_
    rotate_left
    · refine ⟨smallE (by simp), fun l0 hl0 => ?_⟩
      have s0 : Same H (upd H l0 (.lst [.int 0])) := Same.new hl0
      refine ⟨_, rfl, l0, _, _, rfl, rfl, upd_same, by omega, by omega, smallE (by simp; omega), fun T hT => ?_⟩
      refine key _ _ ⟨T, rfl, s0.free hT, s0.trans (Same.new hT), ?_⟩
      rw [upd_same, Int.toNat_natCast, VI_rep]
    rintro _ H1 ⟨T0, rfl, hT0, s1, hT1⟩
    refine ⟨_, rfl, _, rfl, x, tb, rfl, ⟨_, s1.seq hx⟩, ⟨_, s1.seq hq⟩, ?_⟩
    refine for_zip (K := K) (a := x) (b := tb) (xs := VI h a) (ys := us) (n := h) (by rw [VI_len, hul, Nat.min_self]) (fun i σ H2 => ∃ T o1 o2, σ = [some (.ref x), some (.ref tb), some (.int w), some (.ref T), o1, o2] ∧ H T = none ∧ Same H H2 ∧ H2 T = some (.lst (VI w fun j => sumN (fun k => a k * f k j) i)))
      ⟨T0, none, none, rfl, hT0, s1, hT1⟩ (fun i σ H2 _ ⟨_, _, _, _, _, s2, _⟩ => ⟨s2.seq hx, s2.seq hq⟩) ?_ ?_
    · rintro i u v σ H2 pr hu hv ⟨T, o1, o2, rfl, hT, s2, hT2⟩ hp
      obtain ⟨hi, rfl⟩ := VI_inv hu
      obtain ⟨_, b, rfl, hb⟩ := hrow i _ hv
      have sp : Same H2 (upd H2 pr (.tup [.int (a i), .ref b])) := Same.new hp
      refine ⟨pr, _, rfl, .of upd_same, rfl, _, _, rfl, _, _, rfl, rfl, ?_⟩
      refine ⟨_, rfl, _, rfl, _, rfl, 1, a i, T, b, w, _, f i, rfl, .of (sp _ _ hT2), (s2.trans sp).seq hb, by omega, fun j hj => ⟨mulokL (by decide) (by decide), hm i j hi hj⟩, fun D H3 hD s3 hD3 => ?_⟩
      refine ⟨D, _, _, rfl, (s2.trans sp).free hD, (s2.trans sp).trans s3, ?_⟩
      rw [hD3]
      congr 2
      refine VI_congr fun j hj => ?_
      show 1 * _ + _ = sumN _ i + _
      rw [Int.one_mul]
    · rintro σ H2 ⟨T, o1, o2, rfl, hT, s2, hT2⟩
      exact ⟨_, rfl, k T H2 hT s2 hT2⟩
abbrev s_each_divides_the_next : Stmt := top 15
theorem sc_each_divides_the_next : FnScope ["numbers"] ["numbers"] (defScope s_each_divides_the_next) := ⟨rfl, rfl, rfl, by decide +kernel, rfl, by decide +kernel, by decide +kernel⟩
theorem ok_each_divides_the_next {f : Addr} {fd : FuncData} (F : Fun K "each_divides_the_next" "each_divides_the_next" s_each_divides_the_next f fd) (T : Txt K mg) (h_is_multiple : Has P w K mg base "is_multiple" ["value", "number"] 1 (sp_is_multiple K)) : FnOk P w K mg base CX0 2 f fd ["numbers"] (sp_each_divides K) := by
  refine F.ok sc_each_divides_the_next (fun vs H Q E h => ?_) (fun cdv A outer s H vs Q E hr h => ?_)
  · obtain ⟨a, ns, rfl, hq, hl, hpos, k⟩ := h
    rfl
  · obtain ⟨a, ns, rfl, hq, hl, hpos, k⟩ := h
    refine ⟨_, (pss_one (ps_ret (pe_callB (kcall_allB (K := K) (by rfl)) (by rfl) T.n_all boot_allB (pa_cons (pe_comp (N' := ["number", "after"]) (cap := [none, none]) (by rfl) (by kernel_rfl) (pi_zip (K := K) (by rfl) T.n_zip (pa_cons (pv 0) (pa_cons (pe_slice (ksl_list (K := K)) (pv 0) (po_some pe_int) po_none) pa_nil))) (fun _ _ _ _ => (kpg_tup (K := K) (n := 2) (by rfl) (pgs_cons (pg_name (i := 0) ndc_6 (by rfl) (by first | exact Or.inl rfl | exact Or.inr rfl)) (pgs_cons (pg_name (i := 1) ndc_6 (by rfl) (by first | exact Or.inl rfl | exact Or.inr rfl)) pgs_nil)))) (fun _ _ _ _ => pts_nil) (fun _ _ _ _ => (pe_callH h_is_multiple hr (by rfl) (pa_cons (pv 1) (pa_cons (pv 0) pa_nil))))) pa_nil)))), ?_⟩
    refine ⟨_, rfl, _, rfl, _, rfl, a, _, rfl, hq, fun C hC => ?_⟩
    have hcut : cutV (ns.map V.int) (some 1) none = (ns.drop 1).map V.int := by
      rw [show (1 : Int) = ((1 : Nat) : Int) from rfl, cut_drop, List.map_drop]
    rw [hcut]
    have sC : Same H (upd H C (.lst ((ns.drop 1).map V.int))) := Same.new hC
    have hC1 : (upd H C (.lst ((ns.drop 1).map V.int))) C = some (.lst ((ns.drop 1).map V.int)) := upd_same
    generalize upd H C (.lst ((ns.drop 1).map V.int)) = H0 at sC hC1
    refine ⟨a, C, rfl, ⟨_, sC.seq hq⟩, ⟨_, .of hC1⟩, fun D hD => ?_⟩
    have hzl : (ns.zip (ns.drop 1)).length = min (ns.map V.int).length ((ns.drop 1).map V.int).length := by rw [List.length_zip, List.length_map, List.length_map]
    refine comp_zip0 (K := K) (a := a) (b := C) (xs := ns.map V.int) (ys := (ns.drop 1).map V.int) (n := (ns.zip (ns.drop 1)).length) hzl (fun i zs τ H1 => Same H0 H1 ∧ H1 D = some (.lst zs) ∧ zs = (((ns.zip (ns.drop 1)).take i).map fun p => decide (p.2 % p.1 = 0)).map V.bl ∧ ∃ o1 o2, τ = [o1, o2])
      ⟨Same.new hD, upd_same, rfl, none, none, rfl⟩ (fun i zs τ H1 _ ⟨s1, _⟩ => ⟨(sC.trans s1).seq hq, .of (s1 _ _ hC1)⟩) ?_ ?_
    · rintro i x y zs τ H1 p hx hy ⟨s1, hD1, rfl, o1, o2, rfl⟩ hp
      rw [List.getElem?_map] at hx hy
      obtain ⟨x1, hx1, rfl⟩ := Option.map_eq_some_iff.mp hx
      obtain ⟨y1, hy1, rfl⟩ := Option.map_eq_some_iff.mp hy
      have hz : (ns.zip (ns.drop 1))[i]? = some (x1, y1) := by rw [List.getElem?_zip_eq_some]; exact ⟨hx1, hy1⟩
      have hil : i < (ns.zip (ns.drop 1)).length := (List.getElem?_eq_some_iff.mp hz).1
      have hzn : (ns.zip (ns.drop 1)).length ≤ ns.length := by rw [List.length_zip]; exact Nat.min_le_left _ _
      have sp : Same H1 (upd H1 p (.tup [.int x1, .int y1])) := Same.new hp
      refine ⟨p, _, rfl, .of upd_same, rfl, _, _, rfl, _, _, rfl, rfl, ?_⟩
      refine ⟨_, rfl, _, rfl, y1, x1, rfl, hpos x1 (List.mem_of_getElem? hx1), ?_⟩
      refine ⟨sp _ _ hD1, small (by rw [List.length_map, List.length_map, List.length_take]; omega), (s1.trans sp).turn hD, upd_same, ?_, _, _, rfl⟩
      rw [take_all hz, List.map_append]
      rfl
    · rintro zs τ H1 ⟨s1, hD1, rfl, _⟩
      refine ⟨D, ((ns.zip (ns.drop 1)).take (ns.zip (ns.drop 1)).length).map fun p => decide (p.2 % p.1 = 0), rfl, .of hD1, ?_⟩
      rw [List.take_length, all_map]
      exact k H1 (sC.trans s1)
abbrev s_straight_row : Stmt := top 18
theorem sc_straight_row : FnScope ["numbers", "i", "width"] ["numbers", "i", "width"] (defScope s_straight_row) := ⟨rfl, rfl, rfl, by decide +kernel, rfl, by decide +kernel, by decide +kernel⟩
theorem ok_straight_row {f : Addr} {fd : FuncData} (F : Fun K "straight_row" "straight_row" s_straight_row f fd) (T : Txt K mg) (h_number_at : Has P w K mg base "number_at" ["numbers", "i"] 1 (sp_number_at K)) : FnOk P w K mg base CX0 2 f fd ["numbers", "i", "width"] (sp_straight_row K) := by
  refine F.ok sc_straight_row (fun vs H Q E h => ?_) (fun cdv A outer s H vs Q E hr h => ?_)
  · obtain ⟨a, ns, i, w, rfl, hq, hw, k⟩ := h
    rfl
  · obtain ⟨a, ns, i, w, rfl, hq, hw, k⟩ := h
    refine ⟨_, (pss_one (ps_ret (pe_comp (N' := ["j", "i", "numbers"]) (cap := [none, some 1, some 0]) (by rfl) (by kernel_rfl) (pi_range1 (by rfl) T.n_range (pa_cons (pv 2) pa_nil)) (fun _ _ _ _ => (pg_name (i := 0) ndc_8 (by rfl) (by first | exact Or.inl rfl | exact Or.inr rfl))) (fun _ _ _ _ => pts_nil) (fun _ _ _ _ => (pe_ifExp (pt_cmpR op_eq (pv 0) (pv 1) (nomark _)) (pe_callH h_number_at hr (by rfl) (pa_cons (pv 2) (pa_cons (pv 1) pa_nil))) pe_int))))), ?_⟩
    refine ⟨_, rfl, _, rfl, by omega, by omega, fun D hD => ?_⟩
    refine comp_range0 (fun j ys τ H1 => Same H H1 ∧ H1 D = some (.lst ys) ∧ ys = VI j (fun j => if j = i then ns.getD i 0 else 0) ∧ ∃ o, τ = [o, some (.int (i : Int)), some (.ref a)]) ⟨Same.new hD, upd_same, rfl, none, rfl⟩ ?_ ?_
    · rintro j ys τ H1 hj ⟨s1, hD1, rfl, o, rfl⟩
      refine ⟨_, rfl, _, rfl, rfl, _, rfl, ?_⟩
      refine ite2 (fun h1 => ?_) (fun h1 => ?_)
      · have z : j = i := by
          have : (0 : Int) + (j : Int) = (i : Int) := V.int.inj (of_decide_eq_true h1)
          omega
        refine ⟨_, rfl, _, rfl, a, ns, i, rfl, s1.seq hq, ?_⟩
        refine ⟨hD1, small (by rw [VI_len]; omega), s1.turn hD, upd_same, ?_, _, rfl⟩
        rw [VI_succ, if_pos z]
      · have z : ¬ j = i := fun z => h1 (decide_eq_true (by rw [z, Int.zero_add]))
        refine ⟨hD1, small (by rw [VI_len]; omega), s1.turn hD, upd_same, ?_, _, rfl⟩
        rw [VI_succ, if_neg z]
    · rintro ys τ H1 ⟨s1, hD1, rfl, _⟩
      rw [Int.toNat_natCast] at hD1
      exact k D H1 hD s1 hD1
abbrev s_L_square_is : Stmt := top 22
theorem sc_L_square_is : FnScope ["_law_thing", "_law_size", "_law_row"] ["_law_thing", "_law_size"] (defScope s_L_square_is) := ⟨rfl, rfl, rfl, by decide +kernel, rfl, by decide +kernel, by decide +kernel⟩
theorem nd_L_square_is : (["_law_thing", "_law_size", "_law_row"] : List Str).Nodup := by decide +kernel

theorem ok_L_square_is {f : Addr} {fd : FuncData} (F : Fun K "_law_square_is" "_law_square_is" s_L_square_is f fd) (T : Txt K mg) (h_L_whole : Has P w K mg base "_law_whole" ["_law_found"] 1 (sp_is_wholeE K)) : FnOk P w K mg base CX0 2 f fd ["_law_thing", "_law_size"] (sp_L_square_is K) := by
  refine F.ok sc_L_square_is (fun vs H Q E h => ?_) (fun cdv A outer s H vs Q E hr h => ?_)
  · obtain ⟨v, t, w, rfl, hv, hz, k⟩ := h
    rfl
  · obtain ⟨v, t, w, rfl, hv, hz, k⟩ := h
    refine ⟨_, (pss_cons (ps_if (PW.pt (pw_or (pt_not (pt_val (pe_callB (call_isiT (K := K)) (by rfl) T.n_isinstance boot_isinstanceB (pa_cons (pv 0) (pa_cons (pe_bltn (v := .ty "list") rfl T.n_list boot_listT rfl) pa_nil))))) (pw_or1 (pt_cmpR op_ne (pe_callB (kcall_len_seq (K := K)) (by rfl) T.n_len PySem.boot_len (pa_cons (pv 0) pa_nil)) (pv 1) (nomark _))))) (pss_one (ps_ret pe_bl)) pss_nil)
      (pss_cons (ps_for PassesOwn.never rfl (kpi_list (K := K) (pv 0)) (pg_name (i := 2) nd_L_square_is (by rfl) (by first | exact Or.inl rfl | exact Or.inr rfl)) (pss_one (ps_if (PW.pt (pw_or (pt_not (pt_val (pe_callB (call_isiT (K := K)) (by rfl) T.n_isinstance boot_isinstanceB (pa_cons (pv 2) (pa_cons (pe_bltn (v := .ty "list") rfl T.n_list boot_listT rfl) pa_nil))))) (pw_or (pt_cmpR op_ne (pe_callB (kcall_len_seq (K := K)) (by rfl) T.n_len PySem.boot_len (pa_cons (pv 2) pa_nil)) (pv 1) (nomark _)) (pw_or1 (pt_not (pt_val (pe_callB (kcall_allB (K := K) (by rfl)) (by rfl) T.n_all boot_allB (pa_cons (pe_comp (N' := ["_law_number"]) (cap := [none]) (by rfl) (by kernel_rfl) (kpi_list (K := K) (pv 2)) (fun _ _ _ _ => (pg_name (i := 0) ndc_9 (by rfl) (by first | exact Or.inl rfl | exact Or.inr rfl))) (fun _ _ _ _ => pts_nil) (fun _ _ _ _ => (pe_callH h_L_whole hr (by rfl) (pa_cons (pv 0) pa_nil)))) pa_nil)))))))) (pss_one (ps_ret pe_bl)) pss_nil)))
      (pss_one (ps_ret pe_bl)))), ?_⟩
    refine ⟨_, rfl, v, "list", t, rfl, .inr (.inr (.inr (.inr (.inl rfl)))), hv, _, rfl, ?_⟩
    cases t with
    | one e =>
      have hz1 : isE "list" e = false := hz
      refine ifP (by show (!isE "list" e) = true; rw [hz1]; rfl) ?_
      refine ifP rfl ?_
      exact k H (Same.refl H)
    | rows es =>
      refine ifN (by show ¬ (!("list" == "list")) = true; decide) ?_
      obtain ⟨a, us, rfl, hq, hr⟩ := hv
      obtain ⟨hz1, hz2⟩ : es.length ≤ 1000 ∧ ∀ e ∈ es, szE e := hz
      have hl : us.length = es.length := hr.len
      have kf : sqT w (.rows es) = false → ∀ G, Same H G → Q (.bl false) G := fun e G g => by
        have k1 := k G g
        rw [e] at k1
        exact k1
      refine ⟨_, rfl, a, _, rfl, .inl hq, _, rfl, rfl, _, rfl, ?_⟩
      refine ite2 (fun h1 => ?_) (fun h1 => ?_)
      · have e1 : ¬ (es.length : Int) = w := by simpa [hl] using h1
        exact kf (by show (decide ((es.length : Int) = w) && _) = _; rw [decide_eq_false e1, Bool.false_and]) _ (Same.refl H)
      · have e1 : (es.length : Int) = w := by simpa [hl] using h1
        refine ⟨_, rfl, a, rfl, ⟨_, hq⟩, ?_⟩
        refine for_list (K := K) (a := a) (xs := us) (fun i σ H1 => ∃ o1, σ = [some (.ref a), some (.int w), o1] ∧ Same H H1 ∧ (es.take i).all (rowOk w) = true)
          ⟨_, rfl, Same.refl H, rfl⟩ (fun i σ H1 _ ⟨_, _, s1, _⟩ => s1.seq hq) ?_ ?_
        · rintro i u σ H1 hu ⟨o1, rfl, s1, hall⟩
          obtain ⟨e, he, hue⟩ := hr.get hu
          have no : rowOk w e = false → sqT w (.rows es) = false := fun hx => by
            show (decide ((es.length : Int) = w) && es.all (rowOk w)) = false
            rw [all_not he hx, Bool.and_false]
          have hze := hz2 e (List.mem_of_getElem? he)
          refine ⟨_, rfl, u, "list", .one e, rfl, .inr (.inr (.inr (.inr (.inl rfl)))), RepE.same s1 hue, _, rfl, ?_⟩
          refine ite2 (fun h2 => ?_) (fun h2 => ?_)
          · refine ifP rfl ?_
            exact kf (no (rowOk_no (by simpa [isT] using h2))) _ s1
          · obtain ⟨ds, rfl⟩ := isE_list (by simpa [isT] using h2)
            have hdl : ds.length ≤ 1000 := hze
            obtain ⟨b, vs, rfl, hb, hrs⟩ := hue
            have hl2 : vs.length = ds.length := hrs.length
            refine ⟨_, rfl, b, _, rfl, .inl (s1.seq hb), _, rfl, rfl, _, rfl, ?_⟩
            refine ite2 (fun h3 => ?_) (fun h3 => ?_)
            · refine ifP rfl ?_
              have e3 : ¬ (ds.length : Int) = w := by simpa [hl2] using h3
              exact kf (no (by show (decide ((ds.length : Int) = w) && _) = false; rw [decide_eq_false e3, Bool.false_and])) _ s1
            · have e3 : (ds.length : Int) = w := by simpa [hl2] using h3
              refine ⟨_, rfl, b, rfl, ⟨_, s1.seq hb⟩, fun D hD => ?_⟩
              refine comp_list0 (K := K) (a := b) (xs := vs) (fun j ys τ H2 => Same H1 H2 ∧ H2 D = some (.lst ys) ∧ ys = ((ds.take j).map wholeD).map V.bl ∧ ∃ o, τ = [o])
                ⟨Same.new hD, upd_same, rfl, none, rfl⟩ (fun j ys τ H2 _ ⟨s2, _⟩ => (s1.trans s2).seq hb) ?_ ?_
              · rintro j x ys τ H2 hx ⟨s2, hD2, rfl, o, rfl⟩
                obtain ⟨d, hd, hxd⟩ := hrs.getV hx
                refine ⟨_, rfl, _, .d d, rfl, Rep.same (s1.trans s2) hxd, hD2, small (by simp; omega), s2.turn hD, upd_same, ?_, _, rfl⟩
                rw [take_all hd, List.map_append]
                rfl
              · rintro ys τ H2 ⟨s2, hD2, rfl, _⟩
                refine ⟨D, (ds.take vs.length).map wholeD, rfl, .of hD2, _, rfl, ?_⟩
                rw [hl2, List.take_length, all_map]
                refine ite2 (fun h4 => ?_) (fun h4 => ?_)
                · exact kf (no (by show (_ && ds.all wholeD) = false; rw [show ds.all wholeD = false by simpa using h4, Bool.and_false])) _ (s1.trans s2)
                · refine ⟨_, rfl, s1.trans s2, take_allP he hall ?_⟩
                  show (decide ((ds.length : Int) = w) && ds.all wholeD) = true
                  rw [decide_eq_true e3, show ds.all wholeD = true by simpa using h4, Bool.true_and]
        · rintro σ H1 ⟨o1, rfl, s1, hall⟩
          have e2 : sqT w (.rows es) = true := by
            show (decide ((es.length : Int) = w) && es.all (rowOk w)) = true
            rw [hl, List.take_length] at hall
            rw [decide_eq_true e1, hall, Bool.true_and]
          have k1 := k H1 s1
          rw [e2] at k1
          exact k1
abbrev s_L_drawn : Stmt := top 27
theorem sc_L_drawn : FnScope ["_law_script", "_law_cell", "_law_size", "_law_width", "_law_table", "_law_k", "_law_numbers", "_law_last", "_law_number"] ["_law_script"] (defScope s_L_drawn) := ⟨rfl, rfl, rfl, by decide +kernel, rfl, by decide +kernel, by decide +kernel⟩
theorem nd_L_drawn : (["_law_script", "_law_cell", "_law_size", "_law_width", "_law_table", "_law_k", "_law_numbers", "_law_last", "_law_number"] : List Str).Nodup := by decide +kernel

theorem ok_L_drawn {f : Addr} {fd : FuncData} (F : Fun K "_law_drawn" "_law_drawn" s_L_drawn f fd) (T : Txt K mg) (h_L_cell_at : Has P w K mg base "_law_cell_at" ["_law_script", "_law_k"] 1 (sp_L_cell_at K)) (h_L_one : Has P w K mg base "_law_one" ["_law_size"] 1 (sp_L_one K)) : FnOk P w K mg base CX0 2 f fd ["_law_script"] (sp_L_drawn66 K) := by
  refine F.ok sc_L_drawn (fun vs H Q E h => ?_) (fun cdv A outer s H vs Q E hr h => ?_)
  · obtain ⟨a, ns, rfl, hS, hl, k⟩ := h
    rfl
  · obtain ⟨a, ns, rfl, hS, hl, k⟩ := h
    refine ⟨_, (pss_cons (ps_set (i := 1) nd_L_drawn (by rfl) (by first | exact Or.inl rfl | exact Or.inr rfl) (pe_callH h_L_cell_at hr (by rfl) (pa_cons (pv 0) (pa_cons pe_int pa_nil))))
      (pss_cons (ps_set (i := 2) nd_L_drawn (by rfl) (by first | exact Or.inl rfl | exact Or.inr rfl) (pe_op op_mod (pv 1) pe_int))
      (pss_cons (ps_set (i := 3) nd_L_drawn (by rfl) (by first | exact Or.inl rfl | exact Or.inr rfl) (pe_op op_mod (pe_op op_fdiv (pv 1) pe_int) pe_int))
      (pss_cons (ps_set (i := 4) nd_L_drawn (by rfl) (by first | exact Or.inl rfl | exact Or.inr rfl) (pe_lst pa_nil))
      (pss_cons (ps_for PassesOwn.never rfl (pi_range1 (by rfl) T.n_range (pa_cons (pv 2) pa_nil)) (pg_name (i := 5) nd_L_drawn (by rfl) (by first | exact Or.inl rfl | exact Or.inr rfl)) (pss_one (ps_expr (kpe_bm (K := K) PySem.F.plainAttrs_list PySem.F.slot_list_append PySem.F.type_list_append mt_append (pv 4) (pa_cons (pe_op op_rep (pe_lst (pa_cons pe_int pa_nil)) (pv 3)) pa_nil)))))
      (pss_cons (ps_set (i := 6) nd_L_drawn (by rfl) (by first | exact Or.inl rfl | exact Or.inr rfl) (pe_lst pa_nil))
      (pss_cons (ps_set (i := 7) nd_L_drawn (by rfl) (by first | exact Or.inl rfl | exact Or.inr rfl) pe_int)
      (pss_cons (ps_for PassesOwn.never rfl (pi_range1 (by rfl) T.n_range (pa_cons (pe_callB (call_min3 (by rfl)) (by rfl) T.n_min boot_minB (pa_cons (pv 2) (pa_cons (pv 3) (pa_cons (pe_op op_mod (pe_op op_fdiv (pv 1) pe_int) pe_int) pa_nil)))) pa_nil)) (pg_name (i := 5) nd_L_drawn (by rfl) (by first | exact Or.inl rfl | exact Or.inr rfl)) (pss_cons (ps_set (i := 8) nd_L_drawn (by rfl) (by first | exact Or.inl rfl | exact Or.inr rfl) (pe_callH h_L_cell_at hr (by rfl) (pa_cons (pv 0) (pa_cons (pe_op op_add pe_int (pv 5)) pa_nil))))
      (pss_cons (ps_set (i := 7) nd_L_drawn (by rfl) (by first | exact Or.inl rfl | exact Or.inr rfl) (pe_op op_mulX (pv 7) (pe_op op_add pe_int (pe_op op_mod (pe_op op_fdiv (pv 8) pe_int) pe_int))))
      (pss_cons (ps_if (pt_cmpR op_eq (pe_op op_mod (pv 8) pe_int) pe_int (nomark _)) (pss_one (ps_set (i := 7) nd_L_drawn (by rfl) (by first | exact Or.inl rfl | exact Or.inr rfl) (pe_op op_mulX (pv 7) (pe_op op_add pe_int (pe_op op_mod (pe_op op_fdiv (pv 8) pe_int) (pe_op op_pow pe_int pe_int)))))) pss_nil)
      (pss_cons (ps_if (pt_cmpR op_eq (pe_op op_mod (pe_op op_fdiv (pv 1) pe_int) pe_int) pe_int (nomark _)) (pss_one (ps_set (i := 7) nd_L_drawn (by rfl) (by first | exact Or.inl rfl | exact Or.inr rfl) (pe_op op_add pe_int (pe_op op_mod (pe_op op_fdiv (pv 8) pe_int) pe_int)))) pss_nil)
      (pss_cons (ps_asg (pv 7) (pg_sub (pe_ix (kix_list (K := K)) (pv 4) (pv 5) (fun _ _ => rfl)) (pv 5) set_list))
      (pss_one (ps_expr (kpe_bm (K := K) PySem.F.plainAttrs_list PySem.F.slot_list_append PySem.F.type_list_append mt_append (pv 6) (pa_cons (pv 7) pa_nil))))))))))
      (pss_one (ps_ret (pe_lst (pa_cons (pv 6) (pa_cons (pe_callH h_L_one hr (by rfl) (pa_cons (pv 2) pa_nil)) (pa_cons (pe_callH h_L_one hr (by rfl) (pa_cons (pv 2) pa_nil)) (pa_cons (pe_callH h_L_one hr (by rfl) (pa_cons (pv 3) pa_nil)) (pa_cons (pe_callH h_L_one hr (by rfl) (pa_cons (pv 3) pa_nil)) (pa_cons (pv 4) pa_nil))))))))))))))))), ?_⟩
    obtain ⟨c, hc⟩ : ∃ c, c = cellAt ns 0 := ⟨_, rfl⟩
    obtain ⟨h, eh⟩ := Int.eq_ofNat_of_zero_le (Int.emod_nonneg c (by decide : (4 : Int) ≠ 0))
    obtain ⟨w, ew⟩ := Int.eq_ofNat_of_zero_le (Int.emod_nonneg (c / 4) (by decide : (4 : Int) ≠ 0))
    have hh : h ≤ 3 := by omega
    have hw : w ≤ 3 := by omega
    refine tSeq_cut (fun σ' H' => σ' = [some (.ref a), some (.int c), none, none, none, none, none, none, none] ∧ H = H') ?_ fun key => ?_
    rotate_left
    · refine ⟨_, rfl, a, ns, 0, rfl, hS, by decide, hl, key _ _ ⟨?_, rfl⟩⟩
      rw [hc]; rfl
    rintro _ _ ⟨rfl, rfl⟩
    refine tSeq_cut (fun σ' H' => σ' = [some (.ref a), some (.int c), some (.int (h : Int)), none, none, none, none, none, none] ∧ H = H') ?_ fun key => ?_
    rotate_left
    · refine ⟨_, rfl, _, _, rfl, rfl, (by show (0 : Int) < 4; decide), key _ _ ⟨?_, rfl⟩⟩
      rw [← eh]; rfl
    rintro _ _ ⟨rfl, rfl⟩
    refine tSeq_cut (fun σ' H' => σ' = [some (.ref a), some (.int c), some (.int (h : Int)), some (.int (w : Int)), none, none, none, none, none] ∧ H = H') ?_ fun key => ?_
    rotate_left
    · refine ⟨_, rfl, _, _, rfl, rfl, ⟨by decide, by decide⟩, _, _, rfl, rfl, (by show (0 : Int) < 4; decide), key _ _ ⟨?_, rfl⟩⟩
      rw [← ew]; rfl
    rintro _ _ ⟨rfl, rfl⟩
    refine tSeq_cut (fun σ' H' => ∃ D : Addr, σ' = [some (.ref a), some (.int c), some (.int (h : Int)), some (.int (w : Int)), some (.ref D), none, none, none, none] ∧ Rows H H' D [] w (fun _ _ => 0)) ?_ fun key => ?_
    rotate_left
    · exact ⟨Nat.zero_le _, fun D hD => key _ _ ⟨D, rfl, Rows.nil hD⟩⟩
    rintro _ H1 ⟨D, rfl, R1⟩
    refine tSeq_cut (fun σ' H' => ∃ (as : List Addr) (o : Option V), σ' = [some (.ref a), some (.int c), some (.int (h : Int)), some (.int (w : Int)), some (.ref D), o, none, none, none] ∧ as.length = h ∧ as.Nodup ∧ Rows H H' D as w (fun _ _ => 0)) ?_ fun key => ?_
    rotate_left
    · refine ⟨_, rfl, _, rfl, by omega, by omega, ?_⟩
      refine for_range (lo := 0) (n := (h : Int).toNat) (fun i σ H2 => ∃ (as : List Addr) (o : Option V), σ = [some (.ref a), some (.int c), some (.int (h : Int)), some (.int (w : Int)), some (.ref D), o, none, none, none] ∧ as.length = i ∧ as.Nodup ∧ Rows H H2 D as w (fun _ _ => 0)) ⟨[], none, rfl, rfl, List.nodup_nil, R1⟩ ?_ ?_
      · rintro i σ H2 hi ⟨as, o, rfl, hal, nd, R⟩
        rw [Int.toNat_natCast] at hi
        refine ⟨_, rfl, .inl ⟨rfl, _, .of R.at⟩, ?_⟩
        refine ⟨smallE (by simp), fun L hL => ?_⟩
        have sL : Same H2 (upd H2 L (.lst [.int 0])) := Same.new hL
        have eL : upd H2 L (.lst [.int 0]) L = some (.lst [.int 0]) := upd_same
        generalize upd H2 L (.lst [.int 0]) = H3 at sL eL
        refine ⟨_, rfl, L, _, _, rfl, rfl, eL, by omega, by omega, smallE (by simp; omega), fun E hE => ?_⟩
        have e0 : (List.replicate (w : Int).toNat [V.int 0]).flatten = VI w fun _ => 0 := by rw [Int.toNat_natCast]; exact VI_rep w
        rw [e0]
        have sE : Same H3 (upd H3 E (.lst (VI w fun _ => 0))) := Same.new hE
        refine ⟨D, _, _, rfl, rfl, (sL.trans sE) _ _ R.at, small (by rw [List.length_map]; omega), ?_⟩
        exact ⟨as ++ [E], _, rfl, by simp [hal], nd_push nd (R.has (sL.free hE)), R.push (sL.free hE) (sL.trans sE) upd_same⟩
      · rintro σ H2 ⟨as, o, rfl, hal, nd, R⟩
        rw [Int.toNat_natCast] at hal
        exact key _ _ ⟨as, o, rfl, hal, nd, R⟩
    rintro _ H2 ⟨as, o5, rfl, hal, nd, R2⟩
    refine tSeq_cut (fun σ' H' => ∃ N : Addr, σ' = [some (.ref a), some (.int c), some (.int (h : Int)), some (.int (w : Int)), some (.ref D), o5, some (.ref N), none, none] ∧ Rows H H' D as w (fun _ _ => 0) ∧ H N = none ∧ N ≠ D ∧ (∀ a ∈ as, a ≠ N) ∧ H' N = some (.lst [])) ?_ fun key => ?_
    rotate_left
    · refine ⟨Nat.zero_le _, fun N hN => ?_⟩
      have nD : N ≠ D := fun z => by rw [z, R2.at] at hN; cases hN
      exact key _ _ ⟨N, rfl, R2.later (Same.new hN), R2.same.free hN, nD, R2.has hN, upd_same⟩
    rintro _ H3 ⟨N, rfl, R3, hN, nD, na, h3N⟩
    refine tSeq_cut (fun σ' H' => σ' = [some (.ref a), some (.int c), some (.int (h : Int)), some (.int (w : Int)), some (.ref D), o5, some (.ref N), some (.int 1), none] ∧ H3 = H') ?_ fun key0 => key0 _ _ ⟨rfl, rfl⟩
    rintro _ _ ⟨rfl, rfl⟩
    refine tSeq_cut (fun σ' H' => ∃ (fn : Nat → Nat → Int) (ms : List Int) (q5 q7 q8 : Option V), σ' = [some (.ref a), some (.int c), some (.int (h : Int)), some (.int (w : Int)), some (.ref D), q5, some (.ref N), q7, q8] ∧ Rows H H' D as w fn ∧ H' N = some (.lst (ms.map V.int)) ∧ ms.length ≤ 3 ∧ (∀ x ∈ ms, x.natAbs < 2 ^ 150) ∧ ∀ i j, (fn i j).natAbs < 2 ^ 150) ?_ fun key => ?_
    rotate_left
    · refine ⟨_, rfl, _, rfl, _, rfl, _, _, rfl, rfl, ⟨by decide, by decide⟩, _, _, rfl, rfl, (by show (0 : Int) < 4; decide), _, _, _, rfl, fun m m1 m2 m3 m4 => ?_⟩
      have c4 : 0 ≤ c / 16 % 4 := Int.emod_nonneg _ (by decide)
      have hm3 : m ≤ 3 := by omega
      have hm0 : 0 ≤ m := by omega
      refine ⟨_, rfl, by omega, by omega, ?_⟩
      refine for_range (lo := 0) (n := m.toNat) (fun i σ H4 => ∃ (fn : Nat → Nat → Int) (ms : List Int) (l : Int) (q5 q8 : Option V), σ = [some (.ref a), some (.int c), some (.int (h : Int)), some (.int (w : Int)), some (.ref D), q5, some (.ref N), some (.int l), q8] ∧ i ≤ 3 ∧ Rows H H4 D as w fn ∧ H4 N = some (.lst (ms.map V.int)) ∧ ms.length = i ∧ l.natAbs < 2 ^ (1 + 44 * i) ∧ (∀ x ∈ ms, x.natAbs < 2 ^ 150) ∧ ∀ i j, (fn i j).natAbs < 2 ^ 150)
        ⟨fun _ _ => 0, [], 1, _, none, rfl, by omega, R3, h3N, rfl, by decide, (fun x hx => by simp at hx), fun _ _ => by show (0 : Int).natAbs < 2 ^ 150; decide⟩ ?_ ?_
      · rintro i σ H4 hi ⟨fn, ms, l, q5, q8, rfl, hi3, R, hN4, hml, hlb, hmb, hfb⟩
        have hih : i < h := by omega
        have hiw : i < w := by omega
        obtain ⟨x, hx⟩ : ∃ x, x = cellAt ns (5 + (0 + (i : Int))) := ⟨_, rfl⟩
        refine tSeq_cut (fun σ' H' => σ' = [some (.ref a), some (.int c), some (.int (h : Int)), some (.int (w : Int)), some (.ref D), some (.int (0 + (i : Int))), some (.ref N), some (.int l), some (.int x)] ∧ H4 = H') ?_ fun key => ?_
        rotate_left
        · refine ⟨_, rfl, _, rfl, _, _, rfl, rfl, a, ns, _, rfl, R.same.seq hS, by omega, hl, key _ _ ⟨?_, rfl⟩⟩
          rw [hx]; rfl
        rintro _ _ ⟨rfl, rfl⟩
        refine tSeq_cut (fun σ' H' => ∃ l1 : Int, σ' = [some (.ref a), some (.int c), some (.int (h : Int)), some (.int (w : Int)), some (.ref D), some (.int (0 + (i : Int))), some (.ref N), some (.int l1), some (.int x)] ∧ H4 = H' ∧ l1.natAbs < 2 ^ (5 + 44 * i)) ?_ fun key => ?_
        rotate_left
        · have b1 : (1 + x / 2 % 12).natAbs < 2 ^ 4 := (by show (1 + x / 2 % 12).natAbs < 16; omega)
          refine ⟨_, rfl, _, rfl, _, _, rfl, rfl, ⟨by decide, by decide⟩, _, _, rfl, rfl, (by show (0 : Int) < 12; decide), _, _, rfl, rfl, _, _, rfl, rfl, mulok hlb b1 (by omega), key _ _ ⟨_, rfl, rfl, ?_⟩⟩
          exact bd_mono (bd_mul hlb b1) (by omega)
        rintro _ _ ⟨l1, rfl, rfl, hl1⟩
        refine tSeq_cut (fun σ' H' => ∃ l2 : Int, σ' = [some (.ref a), some (.int c), some (.int (h : Int)), some (.int (w : Int)), some (.ref D), some (.int (0 + (i : Int))), some (.ref N), some (.int l2), some (.int x)] ∧ H4 = H' ∧ l2.natAbs < 2 ^ (45 + 44 * i)) ?_ fun key => ?_
        rotate_left
        · refine ⟨_, rfl, _, _, rfl, rfl, (by show (0 : Int) < 2; decide), rfl, _, rfl, ?_⟩
          refine ite2 (fun h1 => ?_) (fun h1 => ?_)
          · have b1 : (1 + x / 24 % (10 : Int) ^ (12 : Int).toNat).natAbs < 2 ^ 40 := by
              have e : (10 : Int) ^ (12 : Int).toNat = 1000000000000 := by decide +kernel
              rw [e]
              show _ < 1099511627776
              omega
            refine ⟨_, rfl, _, rfl, _, _, rfl, rfl, ⟨by decide, by decide⟩, _, _, rfl, rfl, ⟨by decide, by decide, by decide⟩, _, _, rfl, rfl, (by show (0 : Int) < 10 ^ (12 : Int).toNat; decide +kernel), _, _, rfl, rfl, _, _, rfl, rfl, mulok hl1 b1 (by omega), key _ _ ⟨_, rfl, rfl, ?_⟩⟩
            exact bd_mono (bd_mul hl1 b1) (by omega)
          · exact key _ _ ⟨l1, rfl, rfl, bd_mono hl1 (by omega)⟩
        rintro _ _ ⟨l2, rfl, rfl, hl2⟩
        refine tSeq_cut (fun σ' H' => ∃ l3 : Int, σ' = [some (.ref a), some (.int c), some (.int (h : Int)), some (.int (w : Int)), some (.ref D), some (.int (0 + (i : Int))), some (.ref N), some (.int l3), some (.int x)] ∧ H4 = H' ∧ l3.natAbs < 2 ^ (45 + 44 * i)) ?_ fun key => ?_
        rotate_left
        · refine ⟨_, rfl, _, _, rfl, rfl, ⟨by decide, by decide⟩, _, _, rfl, rfl, (by show (0 : Int) < 4; decide), rfl, _, rfl, ?_⟩
          refine ite2 (fun h1 => ?_) (fun h1 => ?_)
          · have b1 : (1 + x / 2 % 12).natAbs < 2 ^ 4 := (by show (1 + x / 2 % 12).natAbs < 16; omega)
            exact ⟨_, rfl, _, _, rfl, rfl, ⟨by decide, by decide⟩, _, _, rfl, rfl, (by show (0 : Int) < 12; decide), _, _, rfl, rfl, key _ _ ⟨_, rfl, rfl, bd_mono b1 (by omega)⟩⟩
          · exact key _ _ ⟨l2, rfl, rfl, hl2⟩
        rintro _ _ ⟨l3, rfl, rfl, hl3⟩
        have hl3' : l3.natAbs < 2 ^ 150 := bd_mono hl3 (by omega)
        obtain ⟨r, hr1⟩ : ∃ r, as[i]? = some r := ⟨as[i]'(by omega), List.getElem?_eq_getElem (by omega)⟩
        have hr2 := R.row i r hr1
        have nr : r ≠ N := na r (List.mem_of_getElem? hr1)
        refine tSeq_cut (fun σ' H' => ∃ g : Nat → Nat → Int, σ' = [some (.ref a), some (.int c), some (.int (h : Int)), some (.int (w : Int)), some (.ref D), some (.int (0 + (i : Int))), some (.ref N), some (.int l3), some (.int x)] ∧ Rows H H' D as w g ∧ H' N = some (.lst (ms.map V.int)) ∧ ∀ i j, (g i j).natAbs < 2 ^ 150) ?_ fun key => ?_
        rotate_left
        · refine ⟨_, rfl, _, rfl, _, rfl, D, _, _, .ref r, rfl, rfl, .of R.at, ?_, _, rfl, r, _, _, i, rfl, rfl, hr2.2.2, ?_, ?_⟩
          · rw [Int.zero_add]
            exact atI_nat (by rw [List.getElem?_map, hr1]; rfl)
          · rw [Int.zero_add, VI_len]
            exact ixN_lt hiw
          · rw [VI_set hiw]
            refine key _ _ ⟨fun b c => if b = i then (if c = i then l3 else fn i c) else fn b c, rfl, ?_, ?_, fun b c => ?_⟩
            · have q := R.put1 (g := fun b c => if b = i then (if c = i then l3 else fn i c) else fn b c) nd hr1 (fun b hb => by funext c; simp [hb])
              have e : VI w ((fun b c => if b = i then (if c = i then l3 else fn i c) else fn b c) i) = VI w fun k => if k = i then l3 else fn i k := VI_congr fun c _ => by simp
              rw [e] at q
              exact q
            · rw [upd_ne (Ne.symm nr)]
              exact hN4
            · show (if b = i then (if c = i then l3 else fn i c) else fn b c).natAbs < _
              split
              · split
                · exact hl3'
                · exact hfb i c
              · exact hfb b c
        rintro _ H5 ⟨g, rfl, R5, hN5, hgb⟩
        refine ⟨_, rfl, .inl ⟨rfl, _, .of hN5⟩, _, rfl, N, _, _, rfl, rfl, hN5, small (by rw [List.length_map]; omega), ?_⟩
        refine ⟨g, ms ++ [l3], l3, _, _, rfl, by omega, R5.beside hN nD na, ?_, by simp [hml], bd_mono hl3 (by omega), fun y hy => ?_, hgb⟩
        · rw [upd_same, List.map_append]
          rfl
        · rcases List.mem_append.mp hy with hy | hy
          · exact hmb y hy
          · rw [List.mem_singleton.mp hy]
            exact hl3'
      · rintro σ H4 ⟨fn, ms, l, q5, q8, rfl, hi3, R, hN4, hml, hlb, hmb, hfb⟩
        exact key _ _ ⟨fn, ms, _, _, _, rfl, R, hN4, by omega, hmb, hfb⟩
    rintro _ H4 ⟨fn, ms, q5, q7, q8, rfl, R, hN4, hml, hmb, hfb⟩
    refine ⟨_, rfl, _, rfl, h, rfl, by omega, fun D1 as1 H5 hl1 R1 => ?_⟩
    refine ⟨_, rfl, h, rfl, by omega, fun D2 as2 H6 hl2 R2 => ?_⟩
    refine ⟨_, rfl, w, rfl, by omega, fun D3 as3 H7 hl3 R3 => ?_⟩
    refine ⟨_, rfl, w, rfl, by omega, fun D4 as4 H8 hl4 R4 => ?_⟩
    refine ⟨_, rfl, smallE (by simp), fun L hL => ?_⟩
    have sL : Same H8 (upd H8 L (.lst [.ref N, .ref D1, .ref D2, .ref D3, .ref D4, .ref D])) := Same.new hL
    have s7 := R4.same.trans sL
    have s6 := R3.same.trans s7
    have s5 := R2.same.trans s6
    have s4 := R1.same.trans s5
    exact k (.ref L) h w _ hh hw (R.same.trans s4) ⟨L, .ref N, .ref D1, .ref D2, .ref D3, .ref D4, .ref D, ms, oneF, oneF, oneF, oneF, fn, rfl, .of upd_same, ⟨N, _, rfl, .of (s4 _ _ hN4), reps_nums.mpr rfl⟩, hml, hmb, Rep.same s5 (R1.rep hl1), Rep.same s6 (R2.rep hl2), Rep.same s7 (R3.rep hl3), Rep.same sL (R4.rep hl4), Rep.same s4 (R.rep hal), bd_one, bd_one, bd_one, bd_one, hfb⟩
abbrev s_L_turned : Stmt := top 28
theorem sc_L_turned : FnScope ["_law_drawn_here", "_law_cell", "_law_numbers", "_law_left", "_law_left_back", "_law_right", "_law_right_back", "_law_table", "_law_lines", "_law_i", "_law_j", "_law_number"] ["_law_drawn_here", "_law_cell"] (defScope s_L_turned) := ⟨rfl, rfl, rfl, by decide +kernel, rfl, by decide +kernel, by decide +kernel⟩
theorem nd_L_turned : (["_law_drawn_here", "_law_cell", "_law_numbers", "_law_left", "_law_left_back", "_law_right", "_law_right_back", "_law_table", "_law_lines", "_law_i", "_law_j", "_law_number"] : List Str).Nodup := by decide +kernel

theorem ok_L_turned {f : Addr} {fd : FuncData} (F : Fun K "_law_turned" "_law_turned" s_L_turned f fd) (T : Txt K mg) (h_L_columns_added : Has P w K mg base "_law_columns_added" ["_law_table", "_law_i", "_law_j", "_law_number"] 1 (sp_L_columns_added K)) (h_L_added : Has P w K mg base "_law_added" ["_law_table", "_law_i", "_law_j", "_law_number"] 1 (sp_L_added K)) : FnOk P w K mg base CX0 2 f fd ["_law_drawn_here", "_law_cell"] (sp_L_turned66 K) := by
  refine F.ok sc_L_turned (fun vs H Q E h => ?_) (fun cdv A outer s H vs Q E hr h => ?_)
  · obtain ⟨v, c, h, w, B, rfl, hd, hh, hw, hB, k⟩ := h
    rfl
  · obtain ⟨v, c, h, w, B, rfl, hd, hh, hw, hB, k⟩ := h
    refine ⟨_, (pss_cons (ps_asg (pv 0) (kpg_lst (K := K) (n := 6) (by rfl) (pgs_cons (pg_name (i := 2) nd_L_turned (by rfl) (by first | exact Or.inl rfl | exact Or.inr rfl)) (pgs_cons (pg_name (i := 3) nd_L_turned (by rfl) (by first | exact Or.inl rfl | exact Or.inr rfl)) (pgs_cons (pg_name (i := 4) nd_L_turned (by rfl) (by first | exact Or.inl rfl | exact Or.inr rfl)) (pgs_cons (pg_name (i := 5) nd_L_turned (by rfl) (by first | exact Or.inl rfl | exact Or.inr rfl)) (pgs_cons (pg_name (i := 6) nd_L_turned (by rfl) (by first | exact Or.inl rfl | exact Or.inr rfl)) (pgs_cons (pg_name (i := 7) nd_L_turned (by rfl) (by first | exact Or.inl rfl | exact Or.inr rfl)) pgs_nil))))))))
      (pss_cons (ps_set (i := 8) nd_L_turned (by rfl) (by first | exact Or.inl rfl | exact Or.inr rfl) (pe_callB (kcall_len_seq (K := K)) (by rfl) T.n_len PySem.boot_len (pa_cons (pv 3) pa_nil)))
      (pss_cons (ps_if (pt_cmpR op_eq (pe_op op_mod (pv 1) pe_int) pe_int (nomark _)) (pss_one (ps_set (i := 8) nd_L_turned (by rfl) (by first | exact Or.inl rfl | exact Or.inr rfl) (pe_callB (kcall_len_seq (K := K)) (by rfl) T.n_len PySem.boot_len (pa_cons (pv 5) pa_nil)))) pss_nil)
      (pss_cons (ps_if (pt_cmpR op_lt (pv 8) pe_int (nomark _)) (pss_one (ps_ret (pv 0))) pss_nil)
      (pss_cons (ps_set (i := 9) nd_L_turned (by rfl) (by first | exact Or.inl rfl | exact Or.inr rfl) (pe_op op_mod (pe_op op_fdiv (pv 1) pe_int) (pv 8)))
      (pss_cons (ps_set (i := 10) nd_L_turned (by rfl) (by first | exact Or.inl rfl | exact Or.inr rfl) (pe_op op_mod (pe_op op_add (pe_op op_add (pv 9) pe_int) (pe_op op_mod (pe_op op_fdiv (pv 1) pe_int) (pe_op op_sub (pv 8) pe_int))) (pv 8)))
      (pss_cons (ps_set (i := 11) nd_L_turned (by rfl) (by first | exact Or.inl rfl | exact Or.inr rfl) (pe_op op_sub (pe_op op_mod (pe_op op_fdiv (pv 1) pe_int) pe_int) pe_int))
      (pss_cons (ps_if (pt_cmpR op_eq (pe_op op_mod (pv 1) pe_int) pe_int (nomark _)) (pss_cons (ps_set (i := 5) nd_L_turned (by rfl) (by first | exact Or.inl rfl | exact Or.inr rfl) (pe_callH h_L_added hr (by rfl) (pa_cons (pv 5) (pa_cons (pv 10) (pa_cons (pv 9) (pa_cons (pe_op op_sub pe_int (pv 11)) pa_nil))))))
      (pss_cons (ps_set (i := 6) nd_L_turned (by rfl) (by first | exact Or.inl rfl | exact Or.inr rfl) (pe_callH h_L_columns_added hr (by rfl) (pa_cons (pv 6) (pa_cons (pv 9) (pa_cons (pv 10) (pa_cons (pv 11) pa_nil))))))
      (pss_one (ps_ret (pe_lst (pa_cons (pv 2) (pa_cons (pv 3) (pa_cons (pv 4) (pa_cons (pv 5) (pa_cons (pv 6) (pa_cons (pe_callH h_L_columns_added hr (by rfl) (pa_cons (pv 7) (pa_cons (pv 9) (pa_cons (pv 10) (pa_cons (pv 11) pa_nil))))) pa_nil))))))))))) pss_nil)
      (pss_cons (ps_set (i := 3) nd_L_turned (by rfl) (by first | exact Or.inl rfl | exact Or.inr rfl) (pe_callH h_L_columns_added hr (by rfl) (pa_cons (pv 3) (pa_cons (pv 10) (pa_cons (pv 9) (pa_cons (pe_op op_sub pe_int (pv 11)) pa_nil))))))
      (pss_cons (ps_set (i := 4) nd_L_turned (by rfl) (by first | exact Or.inl rfl | exact Or.inr rfl) (pe_callH h_L_added hr (by rfl) (pa_cons (pv 4) (pa_cons (pv 9) (pa_cons (pv 10) (pa_cons (pv 11) pa_nil))))))
      (pss_one (ps_ret (pe_lst (pa_cons (pv 2) (pa_cons (pv 3) (pa_cons (pv 4) (pa_cons (pv 5) (pa_cons (pv 6) (pa_cons (pe_callH h_L_added hr (by rfl) (pa_cons (pv 7) (pa_cons (pv 9) (pa_cons (pv 10) (pa_cons (pv 11) pa_nil))))) pa_nil))))))))))))))))))), ?_⟩
    obtain ⟨a, v0, v1, v2, v3, v4, v5, ns, f1, f2, f3, f4, f5, rfl, hq, r0, nl, nb, r1, r2, r3, r4, r5, b1, b2, b3, b4, b5⟩ := id hd
    obtain ⟨a1, us1, rfl, q1, l1, _⟩ := dT_sq r1
    obtain ⟨a3, us3, rfl, q3, l3, _⟩ := dT_sq r3
    refine tSeq_cut (fun σ' H' => σ' = [some (.ref a), some (.int c), some v0, some (.ref a1), some v2, some (.ref a3), some v4, some v5, none, none, none, none] ∧ H = H') ?_ fun key => ?_
    rotate_left
    · refine ⟨_, rfl, a, _, rfl, hq, rfl, _, _, rfl, _, _, rfl, _, _, rfl, _, _, rfl, _, _, rfl, _, _, rfl, rfl, ?_⟩
      exact key _ _ ⟨rfl, rfl⟩
    rintro _ _ ⟨rfl, rfl⟩
    refine tSeq_cut (fun σ' H' => σ' = [some (.ref a), some (.int c), some v0, some (.ref a1), some v2, some (.ref a3), some v4, some v5, some (.int (h : Int)), none, none, none] ∧ H = H') ?_ fun key => ?_
    rotate_left
    · refine ⟨_, rfl, a1, _, rfl, .inl q1, ?_⟩
      rw [l1]
      exact key _ _ ⟨rfl, rfl⟩
    rintro _ _ ⟨rfl, rfl⟩
    refine tSeq_cut (fun σ' H' => ∃ m : Nat, σ' = [some (.ref a), some (.int c), some v0, some (.ref a1), some v2, some (.ref a3), some v4, some v5, some (.int (m : Int)), none, none, none] ∧ H = H' ∧ ((c % 2 = 1 ∧ m = w) ∨ (¬ c % 2 = 1 ∧ m = h))) ?_ fun key => ?_
    rotate_left
    · refine ⟨_, rfl, _, _, rfl, rfl, (by show (0 : Int) < 2; decide), rfl, _, rfl, ?_⟩
      refine ite2 (fun h1 => ?_) (fun h1 => ?_)
      · refine ⟨_, rfl, a3, _, rfl, .inl q3, ?_⟩
        rw [l3]
        exact key _ _ ⟨w, rfl, rfl, .inl ⟨by simpa using h1, rfl⟩⟩
      · exact key _ _ ⟨h, rfl, rfl, .inr ⟨by simpa using h1, rfl⟩⟩
    rintro _ _ ⟨m, rfl, rfl, hm⟩
    have hm3 : m ≤ 3 := by omega
    refine tSeq_cut (fun σ' H' => σ' = [some (.ref a), some (.int c), some v0, some (.ref a1), some v2, some (.ref a3), some v4, some v5, some (.int (m : Int)), none, none, none] ∧ H = H' ∧ 2 ≤ m) ?_ fun key => ?_
    rotate_left
    · refine ⟨_, rfl, _, _, rfl, rfl, _, rfl, ?_⟩
      refine ite2 (fun h1 => ?_) (fun h1 => ?_)
      · exact ⟨_, rfl, k _ H (Same.refl H) (hd.more (by omega))⟩
      · have : ¬ (m : Int) < 2 := fun z => h1 (decide_eq_true z)
        exact key _ _ ⟨rfl, rfl, by omega⟩
    rintro _ _ ⟨rfl, rfl, hm2⟩
    refine tSeq_cut (fun σ' H' => ∃ i : Nat, σ' = [some (.ref a), some (.int c), some v0, some (.ref a1), some v2, some (.ref a3), some v4, some v5, some (.int (m : Int)), some (.int (i : Int)), none, none] ∧ H = H' ∧ i < m) ?_ fun key => ?_
    rotate_left
    · refine ⟨_, rfl, _, _, rfl, rfl, ⟨by decide, by decide⟩, _, rfl, _, _, rfl, rfl, (by show (0 : Int) < (m : Int); omega), ?_⟩
      have g0 : 0 ≤ c / 2 % (m : Int) := Int.emod_nonneg _ (by omega)
      have g1 : c / 2 % (m : Int) < (m : Int) := Int.emod_lt_of_pos _ (by omega)
      obtain ⟨i, hi⟩ := Int.eq_ofNat_of_zero_le g0
      exact key _ _ ⟨i, by rw [← hi]; rfl, rfl, by omega⟩
    rintro _ _ ⟨i, rfl, rfl, him⟩
    refine tSeq_cut (fun σ' H' => ∃ j : Nat, σ' = [some (.ref a), some (.int c), some v0, some (.ref a1), some v2, some (.ref a3), some v4, some v5, some (.int (m : Int)), some (.int (i : Int)), some (.int (j : Int)), none] ∧ H = H' ∧ j < m) ?_ fun key => ?_
    rotate_left
    · refine ⟨_, rfl, _, _, rfl, rfl, _, rfl, _, _, rfl, rfl, ⟨by decide, by decide⟩, _, rfl, _, _, rfl, rfl, _, _, rfl, rfl, (by show (0 : Int) < (m : Int) - 1; omega), _, _, rfl, rfl, _, rfl, _, _, rfl, rfl, (by show (0 : Int) < (m : Int); omega), ?_⟩
      have g0 : 0 ≤ ((i : Int) + 1 + c / 6 % ((m : Int) - 1)) % (m : Int) := Int.emod_nonneg _ (by omega)
      have g1 : ((i : Int) + 1 + c / 6 % ((m : Int) - 1)) % (m : Int) < (m : Int) := Int.emod_lt_of_pos _ (by omega)
      obtain ⟨j, hj⟩ := Int.eq_ofNat_of_zero_le g0
      exact key _ _ ⟨j, by rw [← hj]; rfl, rfl, by omega⟩
    rintro _ _ ⟨j, rfl, rfl, hjm⟩
    refine tSeq_cut (fun σ' H' => ∃ n : Int, σ' = [some (.ref a), some (.int c), some v0, some (.ref a1), some v2, some (.ref a3), some v4, some v5, some (.int (m : Int)), some (.int (i : Int)), some (.int (j : Int)), some (.int n)] ∧ H = H' ∧ n.natAbs < 2 ^ 10) ?_ fun key => ?_
    rotate_left
    · refine ⟨_, rfl, _, _, rfl, rfl, ⟨by decide, by decide⟩, _, _, rfl, rfl, (by show (0 : Int) < 81; decide), _, _, rfl, rfl, ?_⟩
      have g0 : 0 ≤ c / 12 % 81 := Int.emod_nonneg _ (by decide)
      have g1 : c / 12 % 81 < 81 := Int.emod_lt_of_pos _ (by decide)
      exact key _ _ ⟨_, rfl, rfl, by omega⟩
    rintro _ _ ⟨n, rfl, rfl, hn⟩
    have hn0 : (0 - n).natAbs < 2 ^ 10 := by omega
    have nB : ∀ x ∈ ns, x.natAbs < 2 ^ (B + 20) := fun x hx => bd_mono (nb x hx) (by omega)
    refine ⟨_, rfl, _, _, rfl, rfl, (by show (0 : Int) < 2; decide), rfl, _, rfl, ?_⟩
    refine ite2 (fun h1 => ?_) (fun h1 => ?_)
    · have hmw : m = w := by
        rcases hm with z | z
        · exact z.2
        · exact absurd (by simpa using h1) z.1
      subst hmw
      refine ⟨_, rfl, _, rfl, _, rfl, _, rfl, _, _, rfl, rfl, .ref a3, m, m, j, i, B, 0 - n, f3, rfl, r3, by omega, by omega, hjm, him, hn0, b3, by omega, fun D1 as1 H1 hl1 R1 => ?_⟩
      refine ⟨_, rfl, _, rfl, _, rfl, _, rfl, v4, m, m, i, j, B, n, f4, rfl, Rep.same R1.same r4, by omega, by omega, hjm, hn, b4, by omega, fun D2 as2 H2 hl2 R2 => ?_⟩
      have s2 := R1.same.trans R2.same
      refine ⟨_, rfl, _, rfl, _, rfl, _, rfl, _, rfl, _, rfl, _, rfl, _, rfl, _, rfl, v5, h, m, i, j, B, n, f5, rfl, Rep.same s2 r5, by omega, by omega, hjm, hn, b5, by omega, fun D3 as3 H3 hl3 R3 => ?_⟩
      have s3 := s2.trans R3.same
      refine ⟨smallE (by simp), fun L hL => ?_⟩
      have sL : Same H3 (upd H3 L (.lst [v0, .ref a1, v2, .ref D1, .ref D2, .ref D3])) := Same.new hL
      have s4 := s3.trans sL
      exact k _ _ s4 ⟨L, v0, .ref a1, v2, .ref D1, .ref D2, .ref D3, ns, f1, f2, _, _, _, rfl, .of upd_same, Rep.same s4 r0, nl, nB, Rep.same s4 r1, Rep.same s4 r2, Rep.same ((R2.same.trans R3.same).trans sL) (R1.rep hl1), Rep.same (R3.same.trans sL) (R2.rep hl2), Rep.same sL (R3.rep hl3),
        fun x y => bd_mono (b1 x y) (by omega), fun x y => bd_mono (b2 x y) (by omega), bd_rowF hn0 b3 j i, bd_colF hn b4 i j, bd_colF hn b5 i j⟩
    · have hmh : m = h := by
        rcases hm with z | z
        · exact absurd (by simpa using z.1) h1
        · exact z.2
      subst hmh
      refine ⟨_, rfl, _, rfl, _, rfl, _, rfl, _, _, rfl, rfl, .ref a1, m, m, j, i, B, 0 - n, f1, rfl, r1, by omega, by omega, him, hn0, b1, by omega, fun D1 as1 H1 hl1 R1 => ?_⟩
      refine ⟨_, rfl, _, rfl, _, rfl, _, rfl, v2, m, m, i, j, B, n, f2, rfl, Rep.same R1.same r2, by omega, by omega, him, hjm, hn, b2, by omega, fun D2 as2 H2 hl2 R2 => ?_⟩
      have s2 := R1.same.trans R2.same
      refine ⟨_, rfl, _, rfl, _, rfl, _, rfl, _, rfl, _, rfl, _, rfl, _, rfl, _, rfl, v5, m, w, i, j, B, n, f5, rfl, Rep.same s2 r5, by omega, by omega, him, hjm, hn, b5, by omega, fun D3 as3 H3 hl3 R3 => ?_⟩
      have s3 := s2.trans R3.same
      refine ⟨smallE (by simp), fun L hL => ?_⟩
      have sL : Same H3 (upd H3 L (.lst [v0, .ref D1, .ref D2, .ref a3, v4, .ref D3])) := Same.new hL
      have s4 := s3.trans sL
      exact k _ _ s4 ⟨L, v0, .ref D1, .ref D2, .ref a3, v4, .ref D3, ns, _, _, f3, f4, _, rfl, .of upd_same, Rep.same s4 r0, nl, nB, Rep.same ((R2.same.trans R3.same).trans sL) (R1.rep hl1), Rep.same (R3.same.trans sL) (R2.rep hl2), Rep.same s4 r3, Rep.same s4 r4, Rep.same sL (R3.rep hl3),
        bd_colF hn0 b1 j i, bd_rowF hn b2 i j, fun x y => bd_mono (b3 x y) (by omega), fun x y => bd_mono (b4 x y) (by omega), bd_rowF hn b5 i j⟩
abbrev s_L_spoilt : Stmt := top 31
theorem sc_L_spoilt : FnScope ["_law_script", "_law_papers", "_law_how", "_law_which", "_law_at", "_law_other", "_law_found", "_law_spot", "_law_row", "_law_place"] ["_law_script", "_law_papers"] (defScope s_L_spoilt) := ⟨rfl, rfl, rfl, by decide +kernel, rfl, by decide +kernel, by decide +kernel⟩
theorem nd_L_spoilt : (["_law_script", "_law_papers", "_law_how", "_law_which", "_law_at", "_law_other", "_law_found", "_law_spot", "_law_row", "_law_place"] : List Str).Nodup := by decide +kernel

theorem ok_L_spoilt {f : Addr} {fd : FuncData} (F : Fun K "_law_spoilt" "_law_spoilt" s_L_spoilt f fd) (T : Txt K mg) (h_L_cell_at : Has P w K mg base "_law_cell_at" ["_law_script", "_law_k"] 1 (sp_L_cell_at K)) (h_L_odd : Has P w K mg base "_law_odd" ["_law_papers", "_law_which", "_law_at"] 1 (sp_L_odd66 K)) (h_L_other_number : Has P w K mg base "_law_other_number" ["_law_number", "_law_cell"] 1 (sp_L_other_number K)) : FnOk P w K mg base CX0 2 f fd ["_law_script", "_law_papers"] (sp_L_spoilt66 K) := by
  refine F.ok sc_L_spoilt (fun vs H Q E h => ?_) (fun cdv A outer s H vs Q E hr h => ?_)
  · obtain ⟨sc, a, ns, ps, dss, B, rfl, hS, hl, hq, V5, hB1, hB, k⟩ := h
    rfl
  · obtain ⟨sc, a, ns, ps, dss, B, rfl, hS, hl, hq, V5, hB1, hB, k⟩ := h
    refine ⟨_, (pss_cons (ps_set (i := 2) nd_L_spoilt (by rfl) (by first | exact Or.inl rfl | exact Or.inr rfl) (pe_callH h_L_cell_at hr (by rfl) (pa_cons (pv 0) (pa_cons pe_int pa_nil))))
      (pss_cons (ps_set (i := 3) nd_L_spoilt (by rfl) (by first | exact Or.inl rfl | exact Or.inr rfl) (pe_op op_mod (pe_callH h_L_cell_at hr (by rfl) (pa_cons (pv 0) (pa_cons pe_int pa_nil))) pe_int))
      (pss_cons (ps_set (i := 4) nd_L_spoilt (by rfl) (by first | exact Or.inl rfl | exact Or.inr rfl) (pe_callH h_L_cell_at hr (by rfl) (pa_cons (pv 0) (pa_cons pe_int pa_nil))))
      (pss_cons (ps_if (PW.pt (pw_and (pt_cmpR op_gt (pe_op op_mod (pv 2) pe_int) pe_int (nomark _)) (pw_and1 (pt_cmpR op_eq (pe_op op_mod (pv 2) pe_int) pe_int (nomark _))))) (pss_one (ps_ret (pe_callH h_L_odd hr (by rfl) (pa_cons (pv 1) (pa_cons (pv 3) (pa_cons (pv 4) pa_nil)))))) pss_nil)
      (pss_cons (ps_if (pt_cmpR op_eq (pe_op op_mod (pv 2) pe_int) pe_int (nomark _)) (pss_cons (ps_set (i := 5) nd_L_spoilt (by rfl) (by first | exact Or.inl rfl | exact Or.inr rfl) (pe_lst (pa_cons (pe_ix (kix_list (K := K)) (pv 1) pe_int (fun _ _ => rfl)) (pa_cons (pe_ix (kix_list (K := K)) (pv 1) pe_int (fun _ _ => rfl)) (pa_cons (pe_ix (kix_list (K := K)) (pv 1) pe_int (fun _ _ => rfl)) (pa_cons (pe_ix (kix_list (K := K)) (pv 1) pe_int (fun _ _ => rfl)) (pa_cons (pe_ix (kix_list (K := K)) (pv 1) pe_int (fun _ _ => rfl)) pa_nil)))))))
      (pss_one (ps_ret (PEw.h (pe_ixTw (K := K) (paw_cons (pv 1) (paw_cons (pe_callTy (kcall_tuple_of (K := K)) (by rfl) T.n_tuple boot_tupleT (pa_cons (pe_slice (ksl_list (K := K)) (pv 1) po_none (po_some pe_int)) pa_nil)) (paw_cons (pe_callTy (kcall_tuple_of (K := K)) (by rfl) T.n_tuple boot_tupleT (pa_cons (pe_op (kop_catLW (K := K)) (pv 1) (pe_lst (pa_cons (pe_lst pa_nil) pa_nil))) pa_nil)) (paw_cons pe_non (paw_cons (pe_callTy (kcall_tuple_of (K := K)) (by rfl) T.n_tuple boot_tupleT (pa_cons (pv 5) pa_nil)) paw_nil))))) (pe_op op_mod (pe_op op_fdiv (pv 2) pe_int) pe_int) (fun _ _ => rfl)))))) pss_nil)
      (pss_cons (ps_setC (N' := ["_law_one_here"]) (cap := [none]) (i := 6) nd_L_spoilt (by rfl) (by first | exact Or.inl rfl | exact Or.inr rfl) (by rfl) (by kernel_rfl) (kpi_list (K := K) (pv 1)) (fun _ _ _ _ => (pg_name (i := 0) ndc_16 (by rfl) (by first | exact Or.inl rfl | exact Or.inr rfl))) (fun _ _ _ _ => pts_nil) (fun _ _ _ _ => (pe_callTy (kcall_list_of (K := K)) (by rfl) T.n_list boot_listT (pa_cons (pv 0) pa_nil))))
      (pss_cons (ps_if (PW.pt (pw_and (pt_cmpR op_eq (pe_op op_mod (pv 2) pe_int) pe_int (nomark _)) (pw_and (pt_cmpR op_eq (pv 3) pe_int (nomark _)) (pw_and1 (pt_cmpR op_eq (pe_op op_mod (pv 4) pe_int) pe_int (nomark _)))))) (pss_cons (ps_expr (kpe_bm (K := K) PySem.F.plainAttrs_list PySem.F.slot_list_append PySem.F.type_list_append mt_append (pe_ix (kix_list (K := K)) (pv 6) pe_int (fun _ _ => rfl)) (pa_cons (pe_ix (kix_tup (K := K)) (pe_tup (pa_cons pe_int (pa_cons (pe_maxD (K := K) (by rfl) (by rfl) T.n_max (pa_cons (pe_ix (kix_list (K := K)) (pv 6) pe_int (fun _ _ => rfl)) pa_nil) pe_int) pa_nil))) (pe_op op_mod (pe_op op_fdiv (pv 4) pe_int) pe_int) (fun _ _ => rfl)) pa_nil)))
      (pss_one (ps_ret (pe_callTy (kcall_tuple_of (K := K)) (by rfl) T.n_tuple boot_tupleT (pa_cons (pv 6) pa_nil))))) pss_nil)
      (pss_cons (ps_if (PW.pt (pw_or (pt_cmpR op_eq (pe_op op_mod (pv 2) pe_int) pe_int (nomark _)) (pw_or1 (pt_cmpR op_eq (pe_callB (kcall_len_seq (K := K)) (by rfl) T.n_len PySem.boot_len (pa_cons (pe_ix (kix_list (K := K)) (pv 6) (pv 3) (fun _ _ => rfl)) pa_nil)) pe_int (nomark _))))) (pss_one (ps_ret (pe_callTy (kcall_tuple_of (K := K)) (by rfl) T.n_tuple boot_tupleT (pa_cons (pv 6) pa_nil)))) pss_nil)
      (pss_cons (ps_set (i := 7) nd_L_spoilt (by rfl) (by first | exact Or.inl rfl | exact Or.inr rfl) (pe_op op_mod (pv 4) (pe_callB (kcall_len_seq (K := K)) (by rfl) T.n_len PySem.boot_len (pa_cons (pe_ix (kix_list (K := K)) (pv 6) (pv 3) (fun _ _ => rfl)) pa_nil))))
      (pss_cons (ps_if (pt_cmpR op_eq (pe_op op_mod (pv 2) pe_int) pe_int (nomark _)) (pss_one (ps_expr (kpe_bm (K := K) PySem.F.plainAttrs_list PySem.F.slot_list_pop PySem.F.type_list_pop mt_popAt (pe_ix (kix_list (K := K)) (pv 6) (pv 3) (fun _ _ => rfl)) (pa_cons (pv 7) pa_nil)))) (pss_one (ps_if (pt_cmpR op_eq (pv 3) pe_int (nomark _)) (pss_one (ps_asg (pe_callH h_L_other_number hr (by rfl) (pa_cons (pe_ix (kix_list (K := K)) (pe_ix (kix_list (K := K)) (pv 6) pe_int (fun _ _ => rfl)) (pv 7) (fun _ _ => rfl)) (pa_cons (pe_callH h_L_cell_at hr (by rfl) (pa_cons (pv 0) (pa_cons pe_int pa_nil))) pa_nil))) (pg_sub (pe_ix (kix_list (K := K)) (pv 6) pe_int (fun _ _ => rfl)) (pv 7) set_list))) (pss_cons (ps_set (i := 8) nd_L_spoilt (by rfl) (by first | exact Or.inl rfl | exact Or.inr rfl) (pe_callTy (kcall_list_of (K := K)) (by rfl) T.n_list boot_listT (pa_cons (pe_ix (kix_list (K := K)) (pe_ix (kix_list (K := K)) (pv 6) (pv 3) (fun _ _ => rfl)) (pv 7) (fun _ _ => rfl)) pa_nil)))
      (pss_cons (ps_set (i := 9) nd_L_spoilt (by rfl) (by first | exact Or.inl rfl | exact Or.inr rfl) (pe_op op_mod (pe_op op_fdiv (pv 4) pe_int) (pe_callB (kcall_len_seq (K := K)) (by rfl) T.n_len PySem.boot_len (pa_cons (pv 8) pa_nil))))
      (pss_cons (ps_asg (pe_callH h_L_other_number hr (by rfl) (pa_cons (pe_ix (kix_list (K := K)) (pv 8) (pv 9) (fun _ _ => rfl)) (pa_cons (pe_callH h_L_cell_at hr (by rfl) (pa_cons (pv 0) (pa_cons pe_int pa_nil))) pa_nil))) (pg_sub (pv 8) (pv 9) set_list))
      (pss_one (ps_asg (pv 8) (pg_sub (pe_ix (kix_list (K := K)) (pv 6) (pv 3) (fun _ _ => rfl)) (pv 7) set_list)))))))))
      (pss_one (ps_ret (pe_callTy (kcall_tuple_of (K := K)) (by rfl) T.n_tuple boot_tupleT (pa_cons (pv 6) pa_nil)))))))))))))), ?_⟩
    obtain ⟨how, ehow⟩ : ∃ x, x = cellAt ns 1 := ⟨_, rfl⟩
    obtain ⟨at_, eat⟩ : ∃ x, x = cellAt ns 3 := ⟨_, rfl⟩
    obtain ⟨i, ei⟩ := Int.eq_ofNat_of_zero_le (Int.emod_nonneg (cellAt ns 2) (by decide : (5 : Int) ≠ 0))
    have hi : i < 5 := by omega
    have up : ∀ t, okT B t → okT (B + 2) t := fun t h => ⟨h.1, fun x y => bd_mono (h.2 x y) (by omega)⟩
    refine tSeq_cut (fun σ' H' => σ' = [some (.ref sc), some (.ref a), some (.int how), none, none, none, none, none, none, none] ∧ H = H') ?_ fun key => ?_
    rotate_left
    · refine ⟨_, rfl, sc, ns, 1, rfl, hS, by decide, hl, key _ _ ⟨?_, rfl⟩⟩
      rw [ehow]; rfl
    rintro _ _ ⟨rfl, rfl⟩
    refine tSeq_cut (fun σ' H' => σ' = [some (.ref sc), some (.ref a), some (.int how), some (.int (i : Int)), none, none, none, none, none, none] ∧ H = H') ?_ fun key => ?_
    rotate_left
    · refine ⟨_, rfl, sc, ns, 2, rfl, hS, by decide, hl, _, _, rfl, rfl, (by decide : (0 : Int) < 5), key _ _ ⟨?_, rfl⟩⟩
      rw [← ei]; rfl
    rintro _ _ ⟨rfl, rfl⟩
    refine tSeq_cut (fun σ' H' => σ' = [some (.ref sc), some (.ref a), some (.int how), some (.int (i : Int)), some (.int at_), none, none, none, none, none] ∧ H = H') ?_ fun key => ?_
    rotate_left
    · refine ⟨_, rfl, sc, ns, 3, rfl, hS, by decide, hl, key _ _ ⟨?_, rfl⟩⟩
      rw [eat]; rfl
    rintro _ _ ⟨rfl, rfl⟩
    refine tSeq_cut (fun σ' H' => σ' = [some (.ref sc), some (.ref a), some (.int how), some (.int (i : Int)), some (.int at_), none, none, none, none, none] ∧ H = H') ?_ fun key => ?_
    rotate_left
    · refine ⟨_, rfl, _, _, rfl, rfl, (by decide : (0 : Int) < 12), _, _, rfl, rfl, _, rfl, ?_⟩
      refine ite2 (fun h1 => ?_) (fun h1 => ?_)
      · refine ⟨_, rfl, _, _, rfl, rfl, (by decide : (0 : Int) < 4), rfl, _, rfl, ?_⟩
        refine ite2 (fun h2 => ?_) (fun h2 => ?_)
        · refine ⟨_, rfl, _, rfl, _, rfl, a, ps, dss, i, B, at_, rfl, hq, V5, hi, hB, fun v p H' s r o => k v p H' s r ?_⟩
          cases p with
          | data _ => trivial
          | tup ts => exact ⟨o.1, fun t ht => up t (o.2 t ht)⟩
        · exact key _ _ ⟨rfl, rfl⟩
      · refine ifN (by decide) ?_
        exact key _ _ ⟨rfl, rfl⟩
    rintro _ _ ⟨rfl, rfl⟩
    refine tSeq_cut (fun σ' H' => σ' = [some (.ref sc), some (.ref a), some (.int how), some (.int (i : Int)), some (.int at_), none, none, none, none, none] ∧ H = H') ?_ fun key => ?_
    rotate_left
    · refine ⟨_, rfl, _, _, rfl, rfl, (by decide : (0 : Int) < 4), rfl, _, rfl, ?_⟩
      refine ite2 (fun h1 => ?_) (fun h1 => ?_)
      · obtain ⟨v0, v1, v2, v3, v4, rfl⟩ := list5 V5.n5
        obtain ⟨d0, d1, d2, d3, d4, rfl⟩ := list5 V5.len
        refine ⟨_, rfl, a, _, _, _, rfl, rfl, hq, rfl, _, rfl, a, _, _, _, rfl, rfl, hq, rfl, _, rfl, a, _, _, _, rfl, rfl, hq, rfl, _, rfl, a, _, _, _, rfl, rfl, hq, rfl, _, rfl, a, _, _, _, rfl, rfl, hq, rfl, smallE (by simp), fun L hL => ?_⟩
        have sG1 : Same H (upd H L (.lst [v0, v2, v1, v4, v3])) := Same.new hL
        have eG1 : upd H L (.lst [v0, v2, v1, v4, v3]) L = some (.lst [v0, v2, v1, v4, v3]) := upd_same
        generalize upd H L (.lst [v0, v2, v1, v4, v3]) = G1 at sG1 eG1
        refine ⟨_, rfl, _, rfl, _, rfl, a, _, rfl, sG1.seq hq, fun P1 hP1 => ?_⟩
        have sG2 : Same G1 (upd G1 P1 (.lst (cutV [v0, v1, v2, v3, v4] none (some 4)))) := Same.new hP1
        have eG2 : upd G1 P1 (.lst (cutV [v0, v1, v2, v3, v4] none (some 4))) P1 = some (.lst (cutV [v0, v1, v2, v3, v4] none (some 4))) := upd_same
        generalize upd G1 P1 (.lst (cutV [v0, v1, v2, v3, v4] none (some 4))) = G2 at sG2 eG2
        refine ⟨P1, _, rfl, .inl ⟨.of eG2, fun P2 hP2 => ?_⟩⟩
        rw [show cutV [v0, v1, v2, v3, v4] none (some 4) = [v0, v1, v2, v3] from rfl]
        have sG3 : Same G2 (upd G2 P2 (.tup [v0, v1, v2, v3])) := Same.new hP2
        have eG3 : upd G2 P2 (.tup [v0, v1, v2, v3]) P2 = some (.tup [v0, v1, v2, v3]) := upd_same
        generalize upd G2 P2 (.tup [v0, v1, v2, v3]) = G3 at sG3 eG3
        refine ⟨_, rfl, Nat.zero_le _, fun P3 hP3 => ?_⟩
        have sG4 : Same G3 (upd G3 P3 (.lst [])) := Same.new hP3
        have eG4 : upd G3 P3 (.lst []) P3 = some (.lst []) := upd_same
        generalize upd G3 P3 (.lst []) = G4 at sG4 eG4
        refine ⟨smallE (by simp), fun P4 hP4 => ?_⟩
        have sG5 : Same G4 (upd G4 P4 (.lst [.ref P3])) := Same.new hP4
        have eG5 : upd G4 P4 (.lst [.ref P3]) P4 = some (.lst [.ref P3]) := upd_same
        generalize upd G4 P4 (.lst [.ref P3]) = G5 at sG5 eG5
        have s05 : Same H G5 := sG1.trans (sG2.trans (sG3.trans (sG4.trans sG5)))
        refine ⟨a, P4, _, _, rfl, rfl, s05.seq hq, .of eG5, smallE (by simp), fun P5 hP5 => ?_⟩
        have sG6 : Same G5 (upd G5 P5 (.lst ([v0, v1, v2, v3, v4] ++ [.ref P3]))) := Same.new hP5
        have eG6 : upd G5 P5 (.lst ([v0, v1, v2, v3, v4] ++ [.ref P3])) P5 = some (.lst ([v0, v1, v2, v3, v4] ++ [.ref P3])) := upd_same
        generalize upd G5 P5 (.lst ([v0, v1, v2, v3, v4] ++ [.ref P3])) = G6 at sG6 eG6
        refine ⟨P5, _, rfl, .inl ⟨.of eG6, fun P6 hP6 => ?_⟩⟩
        have sG7 : Same G6 (upd G6 P6 (.tup ([v0, v1, v2, v3, v4] ++ [.ref P3]))) := Same.new hP6
        have eG7 : upd G6 P6 (.tup ([v0, v1, v2, v3, v4] ++ [.ref P3])) P6 = some (.tup ([v0, v1, v2, v3, v4] ++ [.ref P3])) := upd_same
        generalize upd G6 P6 (.tup ([v0, v1, v2, v3, v4] ++ [.ref P3])) = G7 at sG7 eG7
        have s17 : Same G1 G7 := sG2.trans (sG3.trans (sG4.trans (sG5.trans (sG6.trans sG7))))
        refine ⟨_, rfl, L, _, rfl, .inl ⟨.of (s17 _ _ eG1), fun P7 hP7 => ?_⟩⟩
        have sG8 : Same G7 (upd G7 P7 (.tup [v0, v2, v1, v4, v3])) := Same.new hP7
        have eG8 : upd G7 P7 (.tup [v0, v2, v1, v4, v3]) P7 = some (.tup [v0, v2, v1, v4, v3]) := upd_same
        generalize upd G7 P7 (.tup [v0, v2, v1, v4, v3]) = G8 at sG8 eG8
        refine ⟨smallE (by simp), fun P8 hP8 => ?_⟩
        have s9 : ∀ o, Same G8 (upd G8 P8 o) := fun _ => Same.new hP8
        have s09 : ∀ o, Same H (upd G8 P8 o) := fun o => sG1.trans (s17.trans (sG8.trans (s9 o)))
        have okl : ∀ t ∈ [thD d0, thD d1, thD d2, thD d3, thD d4], okT (B + 2) t := fun t ht => up t (V5.okT t ht)
        have mm : how / 4 % 5 = 0 ∨ how / 4 % 5 = 1 ∨ how / 4 % 5 = 2 ∨ how / 4 % 5 = 3 ∨ how / 4 % 5 = 4 := by omega
        refine ⟨_, rfl, _, _, rfl, rfl, ⟨by decide, by decide⟩, _, _, rfl, rfl, (by decide : (0 : Int) < 5), ?_⟩
        rcases mm with z | z | z | z | z
        · refine ⟨P8, _, _, .ref a, rfl, rfl, .of upd_same, by rw [z]; rfl, ?_⟩
          exact k _ (.data (.one (.d (.lst [.lst d0, .lst d1, .lst d2, .lst d3, .lst d4])))) _ (s09 _) ⟨⟨a, _, rfl, (s09 _).seq hq, (V5.same (s09 _)).whole⟩, rfl⟩ trivial
        · refine ⟨P8, _, _, .ref P2, rfl, rfl, .of upd_same, by rw [z]; rfl, ?_⟩
          refine k _ (.tup [thD d0, thD d1, thD d2, thD d3]) _ (s09 _) ⟨P2, _, rfl, s9 _ _ _ (sG8 _ _ (sG7 _ _ (sG6 _ _ (sG5 _ _ (sG4 _ _ eG3))))), (V5.same (s09 _)).reps.take 4⟩ ⟨by show 4 ≤ 1000; decide, fun t ht => okl t (by simp only [List.mem_cons, List.not_mem_nil, or_false] at ht ⊢; grind)⟩
        · refine ⟨P8, _, _, .ref P6, rfl, rfl, .of upd_same, by rw [z]; rfl, ?_⟩
          refine k _ (.tup ([thD d0, thD d1, thD d2, thD d3, thD d4] ++ [.rows []])) _ (s09 _) ⟨P6, _, rfl, s9 _ _ _ (sG8 _ _ eG7), RepsT.app (V5.same (s09 _)).reps (show RepsT K _ [.ref P3] [.rows []] from ⟨⟨P3, [], rfl, .of (s9 _ _ _ (sG8 _ _ (sG7 _ _ (sG6 _ _ (sG5 _ _ eG4))))), trivial⟩, trivial⟩)⟩ ⟨by show 6 ≤ 1000; decide, fun t ht => ?_⟩
          rcases List.mem_append.mp ht with ht | ht
          · exact okl t ht
          · rw [List.mem_singleton.mp ht]
            exact okT_rows (Nat.zero_le _) (fun e he => by simp at he)
        · refine ⟨P8, _, _, .non, rfl, rfl, .of upd_same, by rw [z]; rfl, ?_⟩
          exact k _ (.data (.one (.d .non))) _ (s09 _) ⟨rfl, rfl⟩ trivial
        · refine ⟨P8, _, _, .ref P7, rfl, rfl, .of upd_same, by rw [z]; rfl, ?_⟩
          obtain ⟨r0, r1, r2, r3, r4, _⟩ := (V5.same (s09 (.tup [.ref a, .ref P2, .ref P6, .non, .ref P7]))).reps
          exact k _ (.tup [thD d0, thD d2, thD d1, thD d4, thD d3]) _ (s09 _) ⟨P7, _, rfl, s9 _ _ _ eG8, r0, r2, r1, r4, r3, trivial⟩ ⟨by show 5 ≤ 1000; decide, fun t ht => okl t (by simp only [List.mem_cons, List.not_mem_nil, or_false] at ht ⊢; grind)⟩
      · exact key _ _ ⟨rfl, rfl⟩
    rintro _ _ ⟨rfl, rfl⟩
    refine tSeq_cut (fun σ' H' => ∃ (D : Addr) (as : List Addr), σ' = [some (.ref sc), some (.ref a), some (.int how), some (.int (i : Int)), some (.int at_), none, some (.ref D), none, none, none] ∧ as.length = 5 ∧ Cop K H H' D as dss) ?_ fun key => ?_
    rotate_left
    · refine ⟨_, rfl, a, rfl, ⟨_, hq⟩, fun D hD => ?_⟩
      refine comp_list0 (K := K) (a := a) (xs := ps) (fun j ys τ H1 => j ≤ 5 ∧ ∃ as : List Addr, as.length = j ∧ ys = as.map V.ref ∧ Cop K H H1 D as dss ∧ ∃ o, τ = [o]) ⟨by decide, [], rfl, rfl, Cop.nil hD, none, rfl⟩ (fun j ys τ H1 _ ⟨_, as, _, _, C, _⟩ => C.same.seq hq) ?_ ?_
      · rintro j x ys τ H1 hx ⟨hj, as, hal, rfl, C, o, rfl⟩
        have hj5 : j < 5 := by have := (List.getElem?_eq_some_iff.mp hx).1; have := V5.n5; omega
        obtain ⟨b, us, ds, e1, e2, hb, hr, hp⟩ := V5.at hj5
        rw [e1] at hx
        cases hx
        refine ⟨_, rfl, b, us, rfl, .inl (C.same.seq hb), fun L hL => ?_⟩
        have sL : Same H1 (upd H1 L (.lst us)) := Same.new hL
        exact ⟨sL _ _ C.at, small (by rw [List.length_map]; omega), by omega, as ++ [L], by simp [hal], by rw [List.map_append]; rfl, C.push (by rw [hal, V5.len]; omega) hL sL (by rw [hal]; exact e2) upd_same hr, _, rfl⟩
      · rintro ys τ H1 ⟨_, as, hal, rfl, C, _⟩
        exact key _ _ ⟨D, as, rfl, by rw [hal, V5.n5], C⟩
    rintro _ H1 ⟨D, as, rfl, hal, C⟩
    have hpap : ∀ ds ∈ dss, Pap B ds := fun ds hd => by
      obtain ⟨j, hj⟩ := List.getElem?_of_mem hd
      have hl5 : j < 5 := by have := (List.getElem?_eq_some_iff.mp hj).1; have := V5.len; omega
      obtain ⟨_, _, ds', _, e2, _, _, hp⟩ := V5.at hl5
      rw [hj] at e2
      cases e2
      exact hp
    have row : ∀ j, j < 5 → ∃ (b : Addr) (us : List V) (ds : List L2.D), as[j]? = some b ∧ dss[j]? = some ds ∧ H b = none ∧ b ≠ D ∧ H1 b = some (.lst us) ∧ Reps K H us ds ∧ us.length = ds.length ∧ Pap B ds := fun j hj => by
      obtain ⟨_, _, ds, _, e2, _, _, hp⟩ := V5.at hj
      have e1 : as[j]? = some (as[j]'(by omega)) := List.getElem?_eq_getElem (by omega)
      obtain ⟨q1, q2, us, q3, q4⟩ := C.row j _ ds e1 e2
      exact ⟨_, us, ds, e1, e2, q1, q2, q3, q4, q4.length, hp⟩
    have ending : ∀ (H' : Hp) (j : Nat) (b : Addr) (us' : List V) (es' : List DE), as[j]? = some b → Same H H' → H' D = some (.lst (as.map V.ref)) → (∀ (m : Nat) c, m ≠ j → as[m]? = some c → H' c = H1 c) → H' b = some (.lst us') → RepsE K H' us' es' → es'.length ≤ 1000 → (∀ e ∈ es', bdE (B + 2) e) → ∀ T1, H' T1 = none → Q (.ref T1) (upd H' T1 (.tup (as.map V.ref))) := fun H' j b us' es' e1 hs hD ho hb hr hel hee T1 hT1 => by
      obtain ⟨q1, q2⟩ := C.done (C0 := B + 2) (by rw [hal, V5.len]) (by omega) hpap e1 hs ho hb hr hel hee
      have sT : Same H' (upd H' T1 (.tup (as.map V.ref))) := Same.new hT1
      exact k _ (.tup ((dss.map thD).set j (.rows es'))) _ (hs.trans sT) ⟨T1, _, rfl, upd_same, RepsT.same sT q1⟩ ⟨by rw [List.length_set, List.length_map, V5.len]; decide, q2⟩
    have atA : ∀ {j : Nat} {b : Addr}, as[j]? = some b → atI (as.map V.ref) (j : Int) = some (.ref b) := fun {j b} e => atI_nat (by rw [List.getElem?_map, e]; rfl)
    refine tSeq_cut (fun σ' H' => σ' = [some (.ref sc), some (.ref a), some (.int how), some (.int (i : Int)), some (.int at_), none, some (.ref D), none, none, none] ∧ H1 = H') ?_ fun key => ?_
    rotate_left
    · refine ⟨_, rfl, _, _, rfl, rfl, (by decide : (0 : Int) < 4), rfl, _, rfl, ?_⟩
      refine ite2 (fun h1 => ?_) (fun h1 => ?_)
      rotate_left
      · refine ifN (by decide) ?_
        exact key _ _ ⟨rfl, rfl⟩
      refine ⟨_, rfl, rfl, _, rfl, ?_⟩
      refine ite2 (fun h2 => ?_) (fun h2 => ?_)
      rotate_left
      · refine ifN (by decide) ?_
        exact key _ _ ⟨rfl, rfl⟩
      refine ⟨_, rfl, _, _, rfl, rfl, (by decide : (0 : Int) < 3), rfl, _, rfl, ?_⟩
      refine ite2 (fun h3 => ?_) (fun h3 => ?_)
      rotate_left
      · exact key _ _ ⟨rfl, rfl⟩
      obtain ⟨b, us, ds, e1, e2, hb0, hbD, hb1, hrs, hul, hp⟩ := row 0 (by decide)
      obtain ⟨ms, em, hmb⟩ := V5.one
      rw [em] at e2
      cases e2
      have hus : us = ms.map V.int := reps_nums.mp hrs
      subst hus
      have a0 : atI (as.map V.ref) 0 = some (.ref b) := atA (j := 0) e1
      refine ⟨_, rfl, D, _, _, .ref b, rfl, rfl, .of C.at, a0, .inl ⟨rfl, _, .of hb1⟩, _, rfl, D, _, _, .ref b, rfl, rfl, .of C.at, a0, b, ms, 1, rfl, .of hb1, rfl, fun m hm => ?_⟩
      have hmB : m.natAbs < 2 ^ (B + 2) := by
        rcases hm with hm | rfl
        · exact bd_mono (hmb m hm) (by omega)
        · exact bd_mono (show (1 : Int).natAbs < 2 ^ 1 by decide) (by omega)
      refine ⟨smallE (by simp), fun T0 hT0 => ?_⟩
      have sG1 : Same H1 (upd H1 T0 (.tup [.int 0, .int m])) := Same.new hT0
      have eG1 : upd H1 T0 (.tup [.int 0, .int m]) T0 = some (.tup [.int 0, .int m]) := upd_same
      generalize upd H1 T0 (.tup [.int 0, .int m]) = G1 at sG1 eG1
      have fin : ∀ x : Int, x.natAbs < 2 ^ (B + 2) → (∀ T1, (upd G1 b (.lst (ms.map V.int ++ [.int x]))) T1 = none → Q (.ref T1) (upd (upd G1 b (.lst (ms.map V.int ++ [.int x]))) T1 (.tup (as.map V.ref)))) := fun x hx => by
        refine ending _ 0 b _ ((nums ms).map DE.d ++ [.d (.int x)]) e1 ((C.same.trans sG1).turn hb0) (by rw [upd_ne (Ne.symm hbD)]; exact sG1 _ _ C.at) (fun m c hm hc => ?_) upd_same ?_ ?_ ?_
        · rw [upd_ne (nd_ne C.nd hc e1 hm)]
          obtain ⟨_, _, us', q3, _⟩ := C.row m c _ hc (List.getElem?_eq_getElem (by have := (List.getElem?_eq_some_iff.mp hc).1; rw [V5.len]; omega))
          rw [q3]
          exact sG1 _ _ q3
        · exact RepsE.app (RepsE.of (reps_nums.mpr rfl)) ⟨rfl, trivial⟩
        · have := hp.len
          rw [List.length_append, List.length_map]
          simp
          omega
        · intro e he
          rcases List.mem_append.mp he with he | he
          · exact pap_map hp (by omega) e he
          · rw [List.mem_singleton.mp he]
            trivial
      have hmsl : ms.length ≤ 3 := by have := hp.len; rw [nums, List.length_map] at this; exact this
      have mm : at_ / 3 % 2 = 0 ∨ at_ / 3 % 2 = 1 := by omega
      have bG : G1 b = some (.lst (ms.map V.int)) := sG1 _ _ hb1
      refine ⟨_, rfl, _, _, rfl, rfl, ⟨by decide, by decide⟩, _, _, rfl, rfl, (by decide : (0 : Int) < 2), ?_⟩
      have DG : ∀ x : Int, (upd G1 b (.lst (ms.map V.int ++ [.int x]))) D = some (.lst (as.map V.ref)) := fun x => by rw [upd_ne (Ne.symm hbD)]; exact sG1 _ _ C.at
      rcases mm with z | z
      · refine ⟨T0, _, _, .int 0, rfl, rfl, .of eG1, by rw [z]; rfl, b, _, _, rfl, rfl, bG, small (by rw [List.length_map]; omega), ?_⟩
        exact ⟨_, rfl, D, _, rfl, .inl ⟨.of (DG 0), fin 0 (Nat.pow_pos (by decide))⟩⟩
      · refine ⟨T0, _, _, .int m, rfl, rfl, .of eG1, by rw [z]; rfl, b, _, _, rfl, rfl, bG, small (by rw [List.length_map]; omega), ?_⟩
        exact ⟨_, rfl, D, _, rfl, .inl ⟨.of (DG m), fin m hmB⟩⟩
    rintro _ _ ⟨rfl, rfl⟩
    obtain ⟨b, us, ds, e1, e2, hb0, hbD, hb1, hrs, hul, hp⟩ := row i hi
    have hds := hp.len
    have hai := atA e1
    have asis : ∀ T1, H1 T1 = none → Q (.ref T1) (upd H1 T1 (.tup (as.map V.ref))) := ending H1 i b us (ds.map DE.d) e1 C.same C.at (fun _ _ _ _ => rfl) hb1 (RepsE.same C.same (RepsE.of hrs)) (by rw [List.length_map]; omega) (pap_map hp (by omega))
    refine tSeq_cut (fun σ' H' => σ' = [some (.ref sc), some (.ref a), some (.int how), some (.int (i : Int)), some (.int at_), none, some (.ref D), none, none, none] ∧ H1 = H' ∧ 0 < us.length) ?_ fun key => ?_
    rotate_left
    · refine ⟨_, rfl, _, _, rfl, rfl, (by decide : (0 : Int) < 4), rfl, _, rfl, ?_⟩
      refine ite2 (fun h1 => ?_) (fun h1 => ?_)
      · refine ifP rfl ?_
        exact ⟨_, rfl, D, _, rfl, .inl ⟨.of C.at, asis⟩⟩
      refine ⟨_, rfl, _, rfl, D, _, _, .ref b, rfl, rfl, .of C.at, hai, b, _, rfl, .inl (.of hb1), rfl, _, rfl, ?_⟩
      refine ite2 (fun h2 => ?_) (fun h2 => ?_)
      · exact ⟨_, rfl, D, _, rfl, .inl ⟨.of C.at, asis⟩⟩
      · exact key _ _ ⟨rfl, rfl, Nat.pos_of_ne_zero fun z => h2 (by rw [z]; rfl)⟩
    rintro _ _ ⟨rfl, rfl, hpos⟩
    have hpI : 0 < (us.length : Int) := by omega
    obtain ⟨j, ej⟩ := Int.eq_ofNat_of_zero_le (Int.emod_nonneg at_ (by omega : (us.length : Int) ≠ 0))
    have hj : j < us.length := by have := Int.emod_lt_of_pos at_ hpI; omega
    refine tSeq_cut (fun σ' H' => σ' = [some (.ref sc), some (.ref a), some (.int how), some (.int (i : Int)), some (.int at_), none, some (.ref D), some (.int (j : Int)), none, none] ∧ H1 = H') ?_ fun key => ?_
    rotate_left
    · refine ⟨_, rfl, _, rfl, _, rfl, D, _, _, .ref b, rfl, rfl, .of C.at, hai, b, _, rfl, .inl (.of hb1), _, _, rfl, rfl, hpI, key _ _ ⟨?_, rfl⟩⟩
      rw [← ej]; rfl
    rintro _ _ ⟨rfl, rfl⟩
    have fin : ∀ (G : Hp) (us' : List V) (es' : List DE), Same H1 G → RepsE K (upd G b (.lst us')) us' es' → es'.length ≤ 1000 → (∀ e ∈ es', bdE (B + 2) e) → (upd G b (.lst us')) D = some (.lst (as.map V.ref)) ∧ ∀ T1, (upd G b (.lst us')) T1 = none → Q (.ref T1) (upd (upd G b (.lst us')) T1 (.tup (as.map V.ref))) := fun G us' es' sG hr hel hee => by
      have hD' : (upd G b (.lst us')) D = some (.lst (as.map V.ref)) := by rw [upd_ne (Ne.symm hbD)]; exact sG _ _ C.at
      refine ⟨hD', ending _ i b us' es' e1 ((C.same.trans sG).turn hb0) hD' (fun m c hm hc => ?_) upd_same hr hel hee⟩
      rw [upd_ne (nd_ne C.nd hc e1 hm)]
      obtain ⟨_, _, us2, q3, _⟩ := C.row m c _ hc (List.getElem?_eq_getElem (by have := (List.getElem?_eq_some_iff.mp hc).1; rw [V5.len]; omega))
      rw [q3]
      exact sG _ _ q3
    have base : ∀ (G : Hp) (us' : List V), Same H1 G → RepsE K (upd G b (.lst us')) us (ds.map DE.d) := fun G us' sG => RepsE.same ((C.same.trans sG).turn hb0) (RepsE.of hrs)
    have setl : ∀ (x : DE), ((ds.map DE.d).set j x).length ≤ 1000 := fun x => by rw [List.length_set, List.length_map]; omega
    have sete : ∀ (x : DE), bdE (B + 2) x → ∀ e ∈ (ds.map DE.d).set j x, bdE (B + 2) e := fun x hx e he => by
      rcases List.mem_or_eq_of_mem_set he with he | rfl
      · exact pap_map hp (by omega) e he
      · exact hx
    refine tSeq_cut (fun σ' H' => ∃ o8 o9 : Option V, σ' = [some (.ref sc), some (.ref a), some (.int how), some (.int (i : Int)), some (.int at_), none, some (.ref D), some (.int (j : Int)), o8, o9] ∧ H' D = some (.lst (as.map V.ref)) ∧ ∀ T1, H' T1 = none → Q (.ref T1) (upd H' T1 (.tup (as.map V.ref)))) ?_ fun key => ?_
    rotate_left
    · refine ⟨_, rfl, _, _, rfl, rfl, (by decide : (0 : Int) < 4), rfl, _, rfl, ?_⟩
      refine ite2 (fun h1 => ?_) (fun h1 => ?_)
      · have hy : us[j]? = some (us[j]'hj) := List.getElem?_eq_getElem hj
        refine ⟨_, rfl, _, rfl, D, _, _, .ref b, rfl, rfl, .of C.at, hai, .inl ⟨rfl, _, .of hb1⟩, _, rfl, b, us, _, j, _, rfl, rfl, hb1, by omega, by omega, (ixN_seq (ixN_lt hj)).1, hy, ?_⟩
        obtain ⟨q1, q2⟩ := fin H1 (us.eraseIdx j) ((ds.map DE.d).eraseIdx j) (Same.refl H1) (RepsE.erase (base H1 _ (Same.refl H1)) j) (by have := List.length_eraseIdx_le (ds.map DE.d) j; rw [List.length_map] at this; omega) (fun e he => pap_map hp (by omega) e (List.mem_of_mem_eraseIdx he))
        exact key _ _ ⟨_, _, rfl, q1, q2⟩
      refine ⟨_, rfl, rfl, _, rfl, ?_⟩
      refine ite2 (fun h2 => ?_) (fun h2 => ?_)
      · have hi0 : i = 0 := by
          have : (i : Int) = 0 := by simpa using h2
          omega
        subst hi0
        obtain ⟨ms, em, hmb⟩ := V5.one
        rw [em] at e2
        cases e2
        have hus : us = ms.map V.int := reps_nums.mp hrs
        subst hus
        have hjm : j < ms.length := by rw [List.length_map] at hj; exact hj
        have a0 : atI (as.map V.ref) 0 = some (.ref b) := atA (j := 0) e1
        refine ⟨_, rfl, D, _, _, .ref b, rfl, rfl, .of C.at, a0, _, rfl, b, _, _, .int ms[j], rfl, rfl, .of hb1, atI_nat (by rw [List.getElem?_map, List.getElem?_eq_getElem hjm]; rfl), _, rfl, sc, ns, 4, rfl, C.same.seq hS, by decide, hl, ms[j], _, B, rfl, hmb _ (List.getElem_mem hjm), by omega, fun v d G sG hv hd hnl => ?_⟩
        refine ⟨_, rfl, D, _, _, .ref b, rfl, rfl, .of (sG _ _ C.at), a0, _, rfl, b, _, _, j, rfl, rfl, sG _ _ hb1, ixN_lt hj, ?_⟩
        obtain ⟨q1, q2⟩ := fin G ((ms.map V.int).set j v) (((nums ms).map DE.d).set j (.d d)) sG (RepsE.put (show RepE K _ v (.d d) from hv _) (base G _ sG) j) (setl _) (sete _ (by
          cases d with
          | lst ds' => exact absurd rfl (hnl ds')
          | _ => trivial))
        exact key _ _ ⟨_, _, rfl, q1, q2⟩
      have hi0 : i ≠ 0 := fun z => h2 (by rw [z]; rfl)
      obtain ⟨n, fn, rfl, hn3, hfn⟩ := V5.more i ds hi0 e2
      have hnl : (rowsD n fn).length = n := by unfold rowsD; rw [List.length_map, List.length_range]
      have hjn : j < n := by omega
      obtain ⟨dj, hdj, hrj⟩ := hrs.getV (List.getElem?_eq_getElem hj)
      have hdj2 : dj = dL n (fn j) := by
        unfold rowsD at hdj
        rw [List.getElem?_map, List.getElem?_range hjn] at hdj
        exact (Option.some.inj hdj).symm
      subst hdj2
      obtain ⟨rj, erj, hrq⟩ := dL_sq hrj
      have ati : atI us (j : Int) = some (.ref rj) := atI_nat (by rw [List.getElem?_eq_getElem hj, erj])
      refine tSeq_cut (fun σ' H' => ∃ L : Addr, σ' = [some (.ref sc), some (.ref a), some (.int how), some (.int (i : Int)), some (.int at_), none, some (.ref D), some (.int (j : Int)), some (.ref L), none] ∧ H1 L = none ∧ Same H1 H' ∧ H' L = some (.lst (VI n (fn j)))) ?_ fun key => ?_
      rotate_left
      · exact ⟨_, rfl, _, rfl, D, _, _, .ref b, rfl, rfl, .of C.at, hai, _, rfl, b, _, _, .ref rj, rfl, rfl, .of hb1, ati, rj, _, rfl, .inl (C.same.seq hrq), fun L hL => key _ _ ⟨L, rfl, hL, Same.new hL, upd_same⟩⟩
      rintro _ G1 ⟨L, rfl, hL, sG1, eG1⟩
      have nLb : L ≠ b := fun z => by rw [z, hb1] at hL; cases hL
      have nLD : L ≠ D := fun z => by rw [z, C.at] at hL; cases hL
      have hnI : 0 < (n : Int) := by omega
      obtain ⟨m, em⟩ := Int.eq_ofNat_of_zero_le (Int.emod_nonneg (at_ / 3) (by omega : (n : Int) ≠ 0))
      have hm : m < n := by have := Int.emod_lt_of_pos (at_ / 3) hnI; omega
      refine tSeq_cut (fun σ' H' => σ' = [some (.ref sc), some (.ref a), some (.int how), some (.int (i : Int)), some (.int at_), none, some (.ref D), some (.int (j : Int)), some (.ref L), some (.int (m : Int))] ∧ G1 = H') ?_ fun key => ?_
      rotate_left
      · refine ⟨_, rfl, _, _, rfl, rfl, ⟨by decide, by decide⟩, _, rfl, L, _, rfl, .inl (.of eG1), _, _, rfl, rfl, (by rw [VI_len]; exact hnI), key _ _ ⟨?_, rfl⟩⟩
        rw [← em, VI_len]; rfl
      rintro _ _ ⟨rfl, rfl⟩
      refine ⟨_, rfl, _, rfl, L, _, _, .int (fn j m), rfl, rfl, .of eG1, VI_at hm, _, rfl, sc, ns, 4, rfl, (C.same.trans sG1).seq hS, by decide, hl, fn j m, _, B, rfl, hfn j m, by omega, fun v d G2 sG2 hv hd hnl2 => ?_⟩
      have eG2 : G2 L = some (.lst (VI n (fn j))) := sG2 _ _ eG1
      refine ⟨_, rfl, _, rfl, L, _, _, m, rfl, rfl, eG2, by rw [VI_len]; exact ixN_lt hm, ?_⟩
      have s13 : Same H1 (upd G2 L (.lst ((VI n (fn j)).set m v))) := (sG1.trans sG2).turn hL
      have e3 : upd G2 L (.lst ((VI n (fn j)).set m v)) L = some (.lst ((VI n (fn j)).set m v)) := upd_same
      generalize upd G2 L (.lst ((VI n (fn j)).set m v)) = G3 at s13 e3
      refine ⟨_, rfl, _, rfl, _, rfl, D, _, _, .ref b, rfl, rfl, .of (s13 _ _ C.at), hai, _, rfl, b, _, _, j, rfl, rfl, s13 _ _ hb1, ixN_lt hj, ?_⟩
      have hrow : RepE K (upd G3 b (.lst (us.set j (.ref L)))) (.ref L) (.d (.lst ((nums (lsI n (fn j))).set m d))) := ⟨L, _, rfl, .of (by rw [upd_ne nLb]; exact e3), reps_put (hv _) (reps_nums.mpr rfl) m⟩
      obtain ⟨q1, q2⟩ := fin G3 (us.set j (.ref L)) (((rowsD n fn).map DE.d).set j (.d (.lst ((nums (lsI n (fn j))).set m d)))) s13 (RepsE.put hrow (base G3 _ s13) j) (setl _) (sete _ (by
        refine ⟨by rw [List.length_set, nums, List.length_map, lsI_len]; omega, fun x hx => ?_⟩
        rcases List.mem_or_eq_of_mem_set hx with hx | rfl
        · obtain ⟨y, hy, rfl⟩ := List.mem_map.mp hx
          obtain ⟨q, _, rfl⟩ := List.mem_map.mp hy
          exact bd_mono (hfn j q) (by omega)
        · exact hd))
      exact key _ _ ⟨_, _, rfl, q1, q2⟩
    rintro _ H2 ⟨o8, o9, rfl, q1, q2⟩
    exact ⟨_, rfl, D, _, rfl, .inl ⟨.of q1, q2⟩⟩
abbrev s_L_numbers_are : Stmt := top 32
theorem sc_L_numbers_are : FnScope ["_law_numbers", "_law_most", "_law_last", "_law_number"] ["_law_numbers", "_law_most"] (defScope s_L_numbers_are) := ⟨rfl, rfl, rfl, by decide +kernel, rfl, by decide +kernel, by decide +kernel⟩
theorem nd_L_numbers_are : (["_law_numbers", "_law_most", "_law_last", "_law_number"] : List Str).Nodup := by decide +kernel

theorem ok_L_numbers_are {f : Addr} {fd : FuncData} (F : Fun K "_law_numbers_are" "_law_numbers_are" s_L_numbers_are f fd) (T : Txt K mg) (h_L_whole : Has P w K mg base "_law_whole" ["_law_found"] 1 (sp_is_wholeE K)) : FnOk P w K mg base CX0 2 f fd ["_law_numbers", "_law_most"] (sp_L_numbers_are K) := by
  refine F.ok sc_L_numbers_are (fun vs H Q E h => ?_) (fun cdv A outer s H vs Q E hr h => ?_)
  · obtain ⟨v, t, m, rfl, hv, hz, k⟩ := h
    rfl
  · obtain ⟨v, t, m, rfl, hv, hz, k⟩ := h
    refine ⟨_, (pss_cons (ps_if (PW.pt (pw_or (pt_not (pt_val (pe_callB (call_isiT (K := K)) (by rfl) T.n_isinstance boot_isinstanceB (pa_cons (pv 0) (pa_cons (pe_bltn (v := .ty "list") rfl T.n_list boot_listT rfl) pa_nil))))) (pw_or1 (pt_cmpR op_gt (pe_callB (kcall_len_seq (K := K)) (by rfl) T.n_len PySem.boot_len (pa_cons (pv 0) pa_nil)) (pv 1) (nomark _))))) (pss_one (ps_ret pe_bl)) pss_nil)
      (pss_cons (ps_set (i := 2) nd_L_numbers_are (by rfl) (by first | exact Or.inl rfl | exact Or.inr rfl) pe_int)
      (pss_cons (ps_for PassesOwn.never rfl (kpi_list (K := K) (pv 0)) (pg_name (i := 3) nd_L_numbers_are (by rfl) (by first | exact Or.inl rfl | exact Or.inr rfl)) (pss_cons (ps_if (PW.pt (pw_or (pt_not (pt_val (pe_callH h_L_whole hr (by rfl) (pa_cons (pv 3) pa_nil)))) (pw_or (pt_cmpR op_lt (pv 3) pe_int (nomark _)) (pw_or1 (pt_cmpR op_ne (pe_op op_mod (pv 3) (pv 2)) pe_int (nomark _)))))) (pss_one (ps_ret pe_bl)) pss_nil)
      (pss_one (ps_set (i := 2) nd_L_numbers_are (by rfl) (by first | exact Or.inl rfl | exact Or.inr rfl) (pv 3)))))
      (pss_one (ps_ret pe_bl))))), ?_⟩
    refine ⟨_, rfl, v, "list", t, rfl, .inr (.inr (.inr (.inr (.inl rfl)))), hv, _, rfl, ?_⟩
    cases t with
    | one e =>
      have hz1 : isE "list" e = false := hz
      refine ifP (by show (!isE "list" e) = true; rw [hz1]; rfl) ?_
      refine ifP rfl ?_
      exact k H (Same.refl H)
    | rows es =>
      refine ifN (by show ¬ (!("list" == "list")) = true; decide) ?_
      obtain ⟨a, us, rfl, hq, hr⟩ := hv
      have hl : us.length = es.length := hr.len
      refine ⟨_, rfl, a, _, rfl, .inl hq, _, rfl, _, _, rfl, rfl, _, rfl, ?_⟩
      refine ite2 (fun h1 => ?_) (fun h1 => ?_)
      · have e1 : ¬ (es.length : Int) ≤ m := by
          have : m < (us.length : Int) := of_decide_eq_true h1
          omega
        have k1 := k H (Same.refl H)
        rw [numsOk_rows, decide_eq_false e1] at k1
        exact k1
      · have e1 : (es.length : Int) ≤ m := by
          have : ¬ m < (us.length : Int) := fun z => h1 (decide_eq_true z)
          omega
        have k0 : Q (.bl (goN 1 es)) H := by
          have k1 := k H (Same.refl H)
          rw [numsOk_go, decide_eq_true e1, Bool.true_and] at k1
          exact k1
        refine tSeq_cut (fun σ' H' => σ' = [some (.ref a), some (.int m), none, none] ∧ H = H') ?_ fun key0 => key0 _ _ ⟨rfl, rfl⟩
        rintro _ _ ⟨rfl, rfl⟩
        refine tSeq_cut (fun σ' H' => σ' = [some (.ref a), some (.int m), some (.int 1), none] ∧ H = H') ?_ fun key0 => key0 _ _ ⟨rfl, rfl⟩
        rintro _ _ ⟨rfl, rfl⟩
        refine ⟨_, rfl, a, rfl, ⟨_, hq⟩, ?_⟩
        refine for_list (K := K) (a := a) (xs := us) (fun i σ H1 => ∃ (l : Int) (o : Option V), σ = [some (.ref a), some (.int m), some (.int l), o] ∧ H = H1 ∧ 0 < l ∧ goN 1 es = goN l (es.drop i))
          ⟨1, none, rfl, rfl, by decide, rfl⟩ (fun i σ H1 _ ⟨_, _, _, e, _⟩ => e ▸ hq) ?_ ?_
        · rintro i u σ H1 hu ⟨l, o, rfl, rfl, hl0, hgo⟩
          obtain ⟨e, he, hue⟩ := hr.get hu
          have hdr : es.drop i = e :: es.drop (i + 1) := by
            have hi : i < es.length := (List.getElem?_eq_some_iff.mp he).1
            rw [List.drop_eq_getElem_cons hi]
            rw [List.getElem?_eq_getElem hi] at he
            rw [Option.some.inj he]
          rw [hdr] at hgo
          have hgo' : goN 1 es = (wholeE e && (decide (1 ≤ intE e) && (decide (intE e % l = 0) && goN (intE e) (es.drop (i + 1))))) := hgo
          refine ⟨_, rfl, u, e, rfl, hue, _, rfl, ?_⟩
          cases hw : wholeE e with
          | false =>
            refine ifP rfl ?_
            refine ifP rfl ?_
            rw [hgo', hw] at k0
            exact k0
          | true =>
            refine ifN (by decide) ?_
            have hi : u = .int (intE e) := by
              cases e with
              | nul => exact nomatch (show false = true from hw)
              | d d =>
                have h5 : Rep K H u d := hue
                rw [whole_toI hw] at h5
                exact h5
            subst hi
            rw [hw, Bool.true_and] at hgo'
            refine ⟨_, rfl, _, _, rfl, rfl, _, rfl, ?_⟩
            refine ite2 (fun h2 => ?_) (fun h2 => ?_)
            · refine ifP rfl ?_
              have h3 : ¬ 1 ≤ intE e := by have := of_decide_eq_true h2; omega
              rw [hgo', decide_eq_false h3] at k0
              exact k0
            · have h3 : 1 ≤ intE e := by
                have : ¬ intE e < 1 := fun z => h2 (decide_eq_true z)
                omega
              rw [decide_eq_true h3, Bool.true_and] at hgo'
              refine ⟨_, rfl, _, rfl, _, _, rfl, rfl, hl0, rfl, _, rfl, ?_⟩
              refine ite2 (fun h4 => ?_) (fun h4 => ?_)
              · have h5 : ¬ intE e % l = 0 := by simpa using h4
                rw [hgo', decide_eq_false h5] at k0
                exact k0
              · have h5 : intE e % l = 0 := by simpa using h4
                rw [decide_eq_true h5, Bool.true_and] at hgo'
                exact ⟨_, rfl, intE e, _, rfl, rfl, by omega, hgo'⟩
        · rintro σ H1 ⟨l, o, rfl, rfl, hl0, hgo⟩
          rw [hl, List.drop_length] at hgo
          rw [hgo] at k0
          exact k0
abbrev s_L_backs : Stmt := top 33
theorem sc_L_backs : FnScope ["_law_one_here", "_law_other", "_law_size", "_law_first"] ["_law_one_here", "_law_other", "_law_size"] (defScope s_L_backs) := ⟨rfl, rfl, rfl, by decide +kernel, rfl, by decide +kernel, by decide +kernel⟩
theorem nd_L_backs : (["_law_one_here", "_law_other", "_law_size", "_law_first"] : List Str).Nodup := by decide +kernel

theorem ok_L_backs {f : Addr} {fd : FuncData} (F : Fun K "_law_backs" "_law_backs" s_L_backs f fd) (T : Txt K mg) (h_L_product : Has P w K mg base "_law_product" ["_law_one_here", "_law_other", "_law_width"] 1 (sp_L_product K)) (h_L_one : Has P w K mg base "_law_one" ["_law_size"] 1 (sp_L_one K)) : FnOk P w K mg base CX0 2 f fd ["_law_one_here", "_law_other", "_law_size"] (sp_L_backs K) := by
  refine F.ok sc_L_backs (fun vs H Q E h => ?_) (fun cdv A outer s H vs Q E hr h => ?_)
  · obtain ⟨v, u, n, B, fn, gn, rfl, hv, hu, bf, bg, hB, hn, k⟩ := h
    rfl
  · obtain ⟨v, u, n, B, fn, gn, rfl, hv, hu, bf, bg, hB, hn, k⟩ := h
    have hu8 : (A.deeper (PyProof.Rows.envOfC "_law_backs" (defScope s_L_backs) s.heap.objs.size f cdv)).units + 8 < cLine := by have := hr.units; omega
    refine ⟨_, (pss_cons (ps_set (i := 3) nd_L_backs (by rfl) (by first | exact Or.inl rfl | exact Or.inr rfl) (pe_cmpR (kop_eqD (K := K) hu8) (pe_callH h_L_product hr (by rfl) (pa_cons (pv 0) (pa_cons (pv 1) (pa_cons (pv 2) pa_nil)))) (pe_callH h_L_one hr (by rfl) (pa_cons (pv 2) pa_nil)) (nomark _)))
      (pss_one (ps_ret (pe_and (pv 3) (pe_one (pe_cmpR (kop_eqD (K := K) hu8) (pe_callH h_L_product hr (by rfl) (pa_cons (pv 1) (pa_cons (pv 0) (pa_cons (pv 2) pa_nil)))) (pe_callH h_L_one hr (by rfl) (pa_cons (pv 2) pa_nil)) (nomark _))))))), ?_⟩
    refine tSeq_cut (fun σ' H' => σ' = [some v, some u, some (.int (n : Int)), some (.bl (eqTab n n (prodF n fn gn) oneF))] ∧ Same H H') ?_ fun key => ?_
    rotate_left
    · refine ⟨_, rfl, _, rfl, _, rfl, v, u, n, n, n, fn, gn, rfl, hv, hu, hn, hn, hn, fun i k j _ _ _ => mulok (bf i k) (bg k j) (by omega), fun D as H1 hl R => ?_⟩
      refine ⟨_, rfl, n, rfl, hn, fun D2 as2 H2 hl2 R2 => ?_⟩
      refine ⟨_, _, Rep.same R2.same (R.rep hl), R2.rep hl2, dep_dT n n _, ?_⟩
      rw [eqD_dT]
      exact key _ _ ⟨rfl, R.same.trans R2.same⟩
    rintro _ H1 ⟨rfl, s1⟩
    refine ⟨_, rfl, _, rfl, ?_⟩
    refine ite2 (fun h1 => ?_) (fun h1 => ?_)
    · refine ⟨_, rfl, _, rfl, _, rfl, u, v, n, n, n, gn, fn, rfl, Rep.same s1 hu, Rep.same s1 hv, hn, hn, hn, fun i k j _ _ _ => mulok (bg i k) (bf k j) (by omega), fun D as H2 hl R => ?_⟩
      refine ⟨_, rfl, n, rfl, hn, fun D2 as2 H3 hl2 R2 => ?_⟩
      refine ⟨_, _, Rep.same R2.same (R.rep hl), R2.rep hl2, dep_dT n n _, ?_⟩
      rw [eqD_dT]
      have k1 := k H3 ((s1.trans R.same).trans R2.same)
      rw [show eqTab n n (prodF n fn gn) oneF = true from h1] at k1
      exact k1
    · have h2 : eqTab n n (prodF n fn gn) oneF = false := by simpa using h1
      have k1 := k H1 s1
      rw [h2] at k1
      first | exact k1 | (rw [h2]; exact k1)
abbrev s_product : Stmt := top 4
theorem sc_product : FnScope ["one", "other", "width"] ["one", "other", "width"] (defScope s_product) := ⟨rfl, rfl, rfl, by decide +kernel, rfl, by decide +kernel, by decide +kernel⟩
theorem ok_product {f : Addr} {fd : FuncData} (F : Fun K "product" "product" s_product f fd) (T : Txt K mg) (h_list_times : Has P w K mg base "list_times" ["numbers", "table", "width"] 2 (sp_list_times K)) : FnOk P w K mg base CX0 3 f fd ["one", "other", "width"] (sp_product K) := by
  refine F.ok sc_product (fun vs H Q E h => ?_) (fun cdv A outer s H vs Q E hr h => ?_)
  · obtain ⟨u, v, h, d, w, f, g, rfl, hu, hv, hh, hd, hw, hm, k⟩ := h
    rfl
  · obtain ⟨u, v, h, d, w, f, g, rfl, hu, hv, hh, hd, hw, hm, k⟩ := h
    refine ⟨_, (pss_one (ps_ret (pe_comp (N' := ["row", "other", "width"]) (cap := [none, some 1, some 2]) (by rfl) (by kernel_rfl) (kpi_list (K := K) (pv 0)) (fun _ _ _ _ => (pg_name (i := 0) ndc_1 (by rfl) (by first | exact Or.inl rfl | exact Or.inr rfl))) (fun _ _ _ _ => pts_nil) (fun _ _ _ _ => (pe_callH h_list_times hr (by rfl) (pa_cons (pv 0) (pa_cons (pv 1) (pa_cons (pv 2) pa_nil)))))))), ?_⟩
    obtain ⟨a, us, rfl, hq, hul, hrow⟩ := dT_sq hu
    refine ⟨_, rfl, a, rfl, ⟨_, hq⟩, fun D hD => ?_⟩
    refine comp_list0 (K := K) (a := a) (xs := us) (fun i ys τ H1 => ∃ as, as.length = i ∧ ys = as.map V.ref ∧ Rows H H1 D as w (fun i j => sumN (fun k => f i k * g k j) d) ∧ ∃ o, τ = [o, some v, some (.int w)])
      ⟨[], rfl, rfl, Rows.nil hD, none, rfl⟩ (fun i ys τ H1 _ ⟨as, _, _, R, _⟩ => R.same.seq hq) ?_ ?_
    · rintro i x ys τ H1 hx ⟨as, hal, rfl, R, o, rfl⟩
      obtain ⟨hi, b, rfl, hb⟩ := hrow i _ hx
      refine ⟨_, rfl, _, rfl, _, rfl, b, v, d, w, f i, g, rfl, R.same.seq hb, Rep.same R.same hv, hd, hw, fun k j hk hj => hm i k j hi hk hj, fun D2 H2 hD2 s2 h2 => ?_⟩
      exact ⟨s2 _ _ R.at, small (by rw [List.length_map]; omega), as ++ [D2], by simp [hal], by rw [List.map_append]; rfl, R.push hD2 s2 (by rw [hal]; exact h2), _, rfl⟩
    · rintro ys τ H1 ⟨as, hal, rfl, R, _⟩
      exact k D as H1 (by omega) R
abbrev s_are_numbers : Stmt := top 14
theorem sc_are_numbers : FnScope ["thing", "most"] ["thing", "most"] (defScope s_are_numbers) := ⟨rfl, rfl, rfl, by decide +kernel, rfl, by decide +kernel, by decide +kernel⟩
theorem ok_are_numbers {f : Addr} {fd : FuncData} (F : Fun K "are_numbers" "are_numbers" s_are_numbers f fd) (T : Txt K mg) (h_each_divides_the_next : Has P w K mg base "each_divides_the_next" ["numbers"] 2 (sp_each_divides K)) (h_is_list_of_wholes : Has P w K mg base "is_list_of_wholes" ["thing", "many"] 2 (sp_list_of_wholesT K)) : FnOk P w K mg base CX0 3 f fd ["thing", "most"] (sp_are_numbers K) := by
  refine F.ok sc_are_numbers (fun vs H Q E h => ?_) (fun cdv A outer s H vs Q E hr h => ?_)
  · obtain ⟨v, t, m, rfl, hv, hz, k⟩ := h
    rfl
  · obtain ⟨v, t, m, rfl, hv, hz, k⟩ := h
    refine ⟨_, (pss_cons (ps_if (PW.pt (pw_or (pt_not (pt_val (pe_callB (call_isiT (K := K)) (by rfl) T.n_isinstance boot_isinstanceB (pa_cons (pv 0) (pa_cons (pe_bltn (v := .ty "list") rfl T.n_list boot_listT rfl) pa_nil))))) (pw_or (pt_cmpR op_gt (pe_callB (kcall_len_seq (K := K)) (by rfl) T.n_len PySem.boot_len (pa_cons (pv 0) pa_nil)) (pv 1) (nomark _)) (pw_or1 (pt_not (pt_val (pe_callH h_is_list_of_wholes hr (by rfl) (pa_cons (pv 0) (pa_cons (pe_callB (kcall_len_seq (K := K)) (by rfl) T.n_len PySem.boot_len (pa_cons (pv 0) pa_nil)) pa_nil))))))))) (pss_one (ps_ret pe_bl)) pss_nil)
      (pss_one (ps_ret (pe_and (pe_callB (kcall_allB (K := K) (by rfl)) (by rfl) T.n_all boot_allB (pa_cons (pe_comp (N' := ["number"]) (cap := [none]) (by rfl) (by kernel_rfl) (kpi_list (K := K) (pv 0)) (fun _ _ _ _ => (pg_name (i := 0) ndc_0 (by rfl) (by first | exact Or.inl rfl | exact Or.inr rfl))) (fun _ _ _ _ => pts_nil) (fun _ _ _ _ => (pe_cmpR op_gt (pv 0) pe_int (nomark _)))) pa_nil)) (pe_one (pe_callH h_each_divides_the_next hr (by rfl) (pa_cons (pv 0) pa_nil))))))), ?_⟩
    refine ⟨_, rfl, v, "list", t, rfl, .inr (.inr (.inr (.inr (.inl rfl)))), hv, _, rfl, ?_⟩
    cases t with
    | one e =>
      have hz1 : isE "list" e = false := hz
      refine ifP (by show (!isE "list" e) = true; rw [hz1]; rfl) ?_
      refine ifP rfl ?_
      exact k H (Same.refl H)
    | rows es =>
      refine ifN (by show ¬ (!("list" == "list")) = true; decide) ?_
      obtain ⟨a, us, rfl, hq, hr⟩ := hv
      obtain ⟨hz1, hz2⟩ : es.length ≤ 1000 ∧ ∀ e ∈ es, szE e := hz
      have hl : us.length = es.length := hr.len
      refine ⟨_, rfl, a, _, rfl, .inl hq, _, rfl, _, _, rfl, rfl, _, rfl, ?_⟩
      refine ite2 (fun h1 => ?_) (fun h1 => ?_)
      · refine ifP rfl ?_
        have e1 : ¬ (es.length : Int) ≤ m := by
          have : m < (us.length : Int) := of_decide_eq_true h1
          omega
        have k1 := k H (Same.refl H)
        rw [numsOk_rows, decide_eq_false e1] at k1
        exact k1
      · have e1 : (es.length : Int) ≤ m := by
          have : ¬ m < (us.length : Int) := fun z => h1 (decide_eq_true z)
          omega
        refine ⟨_, rfl, _, rfl, a, _, rfl, .inl hq, .ref a, .rows es, _, rfl, ⟨a, us, rfl, hq, hr⟩, hz1, fun H1 s1 => ?_⟩
        have hrow : rowT (us.length : Int) (.rows es) = es.all wholeE := by
          show (decide ((es.length : Int) = (us.length : Int)) && _) = _
          rw [hl, decide_eq_true rfl, Bool.true_and]
        rw [hrow]
        cases hw : es.all wholeE with
        | false =>
          refine ⟨_, rfl, ?_⟩
          refine ifP rfl ?_
          have k1 := k H1 s1
          rw [numsOk_rows, hw, Bool.and_false, Bool.false_and, Bool.false_and] at k1
          exact k1
        | true =>
          refine ⟨_, rfl, ?_⟩
          refine ifN (by decide) ?_
          have hus := reps_ints hr hw
          subst hus
          have hq1 := s1.seq hq
          have hnl : (intsE es).length = es.length := by unfold intsE; rw [List.length_map]
          refine ⟨_, rfl, a, rfl, ⟨_, hq1⟩, fun D hD => ?_⟩
          refine comp_list0 (K := K) (a := a) (xs := (intsE es).map V.int) (fun i ys τ H2 => Same H1 H2 ∧ H2 D = some (.lst ys) ∧ ys = (((intsE es).take i).map fun x => decide (0 < x)).map V.bl ∧ ∃ o, τ = [o])
            ⟨Same.new hD, upd_same, rfl, none, rfl⟩ (fun i ys τ H2 _ ⟨s2, _⟩ => s2.seq hq1) ?_ ?_
          · rintro i x ys τ H2 hx ⟨s2, hD2, rfl, o, rfl⟩
            rw [List.getElem?_map] at hx
            obtain ⟨x1, hx1, rfl⟩ := Option.map_eq_some_iff.mp hx
            refine ⟨_, rfl, _, _, rfl, rfl, hD2, small (by rw [List.length_map, List.length_map, List.length_take]; omega), s2.turn hD, upd_same, ?_, _, rfl⟩
            rw [take_all hx1, List.map_append]
            rfl
          · rintro ys τ H2 ⟨s2, hD2, rfl, _⟩
            refine ⟨D, ((intsE es).take ((intsE es).map V.int).length).map fun x => decide (0 < x), rfl, .of hD2, ?_⟩
            rw [List.length_map, List.take_length, all_map]
            have k0 : ∀ H', Same H H' → Q (.bl ((intsE es).all (fun x => decide (0 < x)) && ((intsE es).zip ((intsE es).drop 1)).all fun p => decide (p.2 % p.1 = 0))) H' := fun H' s' => by
              have k1 := k H' s'
              rw [numsOk_rows, decide_eq_true e1, hw, Bool.true_and, Bool.true_and] at k1
              exact k1
            have s12 := s1.trans s2
            cases hp : (intsE es).all (fun x => decide (0 < x)) with
            | false =>
              refine ⟨_, rfl, ?_⟩
              refine ifN (by decide) ?_
              have k1 := k0 H2 s12
              rw [hp] at k1
              exact k1
            | true =>
              refine ⟨_, rfl, ?_⟩
              refine ifP rfl ?_
              refine ⟨_, rfl, a, intsE es, rfl, s2.seq hq1, by omega, fun x hx => of_decide_eq_true (List.all_eq_true.mp hp x hx), fun H3 s3 => ?_⟩
              have k1 := k0 H3 (s12.trans s3)
              rw [hp] at k1
              exact k1
abbrev s_is_square : Stmt := top 17
theorem sc_is_square : FnScope ["thing", "size"] ["thing", "size"] (defScope s_is_square) := ⟨rfl, rfl, rfl, by decide +kernel, rfl, by decide +kernel, by decide +kernel⟩
theorem ok_is_square {f : Addr} {fd : FuncData} (F : Fun K "is_square" "is_square" s_is_square f fd) (T : Txt K mg) (h_is_list_of_wholes : Has P w K mg base "is_list_of_wholes" ["thing", "many"] 2 (sp_list_of_wholesT K)) : FnOk P w K mg base CX0 3 f fd ["thing", "size"] (sp_is_square K) := by
  refine F.ok sc_is_square (fun vs H Q E h => ?_) (fun cdv A outer s H vs Q E hr h => ?_)
  · obtain ⟨v, t, n, rfl, hv, hz, k⟩ := h
    rfl
  · obtain ⟨v, t, n, rfl, hv, hz, k⟩ := h
    refine ⟨_, (pss_one (ps_ret (pe_and (pe_callB (call_isiT (K := K)) (by rfl) T.n_isinstance boot_isinstanceB (pa_cons (pv 0) (pa_cons (pe_bltn (v := .ty "list") rfl T.n_list boot_listT rfl) pa_nil))) (pe_and (pe_cmpR op_eq (pe_callB (kcall_len_seq (K := K)) (by rfl) T.n_len PySem.boot_len (pa_cons (pv 0) pa_nil)) (pv 1) (nomark _)) (pe_one (pe_callB (kcall_allB (K := K) (by rfl)) (by rfl) T.n_all boot_allB (pa_cons (pe_comp (N' := ["row", "size"]) (cap := [none, some 1]) (by rfl) (by kernel_rfl) (kpi_list (K := K) (pv 0)) (fun _ _ _ _ => (pg_name (i := 0) ndc_7 (by rfl) (by first | exact Or.inl rfl | exact Or.inr rfl))) (fun _ _ _ _ => pts_nil) (fun _ _ _ _ => (pe_callH h_is_list_of_wholes hr (by rfl) (pa_cons (pv 0) (pa_cons (pv 1) pa_nil))))) pa_nil))))))), ?_⟩
    refine ⟨_, rfl, v, "list", t, rfl, .inr (.inr (.inr (.inr (.inl rfl)))), hv, _, rfl, ?_⟩
    cases t with
    | one e =>
      have hz1 : isT "list" (.one e) = false := hz
      refine ifN (by rw [hz1]; decide) ?_
      have k1 := k H (Same.refl H)
      first | (rw [hz1]; exact k1) | exact k1
    | rows es =>
      obtain ⟨a, us, rfl, hq, hr⟩ := hv
      obtain ⟨hz1, hz2⟩ : es.length ≤ 1000 ∧ ∀ e ∈ es, szE e := hz
      have hl : us.length = es.length := hr.len
      refine ifP rfl ?_
      refine ⟨_, rfl, a, _, rfl, .inl hq, _, rfl, rfl, _, rfl, ?_⟩
      refine ite2 (fun h1 => ?_) (fun h1 => ?_)
      · have e1 : (es.length : Int) = n := by simpa [hl] using h1
        refine ⟨_, rfl, a, rfl, ⟨_, hq⟩, fun D hD => ?_⟩
        refine comp_list0 (K := K) (a := a) (xs := us) (fun i ys τ H1 => Same H H1 ∧ H1 D = some (.lst ys) ∧ ys = ((es.take i).map (rowOk n)).map V.bl ∧ ∃ o, τ = [o, some (.int n)])
          ⟨Same.new hD, upd_same, rfl, none, rfl⟩ (fun i ys τ H1 _ ⟨s1, _⟩ => s1.seq hq) ?_ ?_
        · rintro i x ys τ H1 hx ⟨s1, hD1, rfl, o, rfl⟩
          obtain ⟨e, he, hxe⟩ := hr.get hx
          refine ⟨_, rfl, _, rfl, x, .one e, n, rfl, RepE.same s1 hxe, hz2 e (List.mem_of_getElem? he), fun H2 s2 => ?_⟩
          refine ⟨s2 _ _ hD1, small (by simp; omega), (s1.trans s2).turn hD, upd_same, ?_, _, rfl⟩
          rw [take_all he, List.map_append]
          rfl
        · rintro ys τ H1 ⟨s1, hD1, rfl, _⟩
          refine ⟨D, (es.take us.length).map (rowOk n), rfl, .of hD1, ?_⟩
          have k1 := k H1 s1
          have e2 : sqT n (.rows es) = es.all (rowOk n) := by
            show (decide ((es.length : Int) = n) && _) = _
            rw [decide_eq_true e1, Bool.true_and]
          rw [e2] at k1
          rw [hl, List.take_length, all_map]
          exact k1
      · have e1 : ¬ (es.length : Int) = n := by simpa [hl] using h1
        have e2 : sqT n (.rows es) = false := by
          show (decide ((es.length : Int) = n) && _) = _
          rw [decide_eq_false e1, Bool.false_and]
        have k1 := k H (Same.refl H)
        rw [e2] at k1
        have e3 : decide (V.int us.length = V.int n) = false := by simpa using h1
        first | (rw [e3]; exact k1) | exact k1
abbrev s_L_due_of : Stmt := top 34
theorem sc_L_due_of : FnScope ["_law_table", "_law_size", "_law_width", "_law_papers", "_law_numbers", "_law_left", "_law_left_back", "_law_right", "_law_right_back", "_law_found", "_law_i", "_law_j", "_law_due"] ["_law_table", "_law_size", "_law_width", "_law_papers"] (defScope s_L_due_of) := ⟨rfl, rfl, rfl, by decide +kernel, rfl, by decide +kernel, by decide +kernel⟩
theorem nd_L_due_of : (["_law_table", "_law_size", "_law_width", "_law_papers", "_law_numbers", "_law_left", "_law_left_back", "_law_right", "_law_right_back", "_law_found", "_law_i", "_law_j", "_law_due"] : List Str).Nodup := by decide +kernel

theorem ok_L_due_of {f : Addr} {fd : FuncData} (F : Fun K "_law_due_of" "_law_due_of" s_L_due_of f fd) (T : Txt K mg) (h_L_product : Has P w K mg base "_law_product" ["_law_one_here", "_law_other", "_law_width"] 1 (sp_L_product K)) (h_L_numbers_are : Has P w K mg base "_law_numbers_are" ["_law_numbers", "_law_most"] 2 (sp_L_numbers_are K)) (h_L_backs : Has P w K mg base "_law_backs" ["_law_one_here", "_law_other", "_law_size"] 2 (sp_L_backs K)) (h_L_square_is : Has P w K mg base "_law_square_is" ["_law_thing", "_law_size"] 2 (sp_L_square_is K)) : FnOk P w K mg base CX0 3 f fd ["_law_table", "_law_size", "_law_width", "_law_papers"] (sp_L_due66 K) := by
  refine F.ok sc_L_due_of (fun vs H Q E h => ?_) (fun cdv A outer s H vs Q E hr h => ?_)
  · obtain ⟨u, v, h, w, B, fn, p, rfl, hu, hh, hw, bf, hB, hp, hok, k⟩ := h
    rfl
  · obtain ⟨u, v, h, w, B, fn, p, rfl, hu, hh, hw, bf, hB, hp, hok, k⟩ := h
    refine ⟨_, (pss_cons (ps_if (PW.pt (pw_or (pt_not (pt_val (pe_callB (call_isiP (K := K)) (by rfl) T.n_isinstance boot_isinstanceB (pa_cons (pv 3) (pa_cons (pe_bltn (v := .ty "tuple") rfl T.n_tuple boot_tupleT rfl) pa_nil))))) (pw_or1 (pt_cmpR op_ne (pe_callB (kcall_len_seq (K := K)) (by rfl) T.n_len PySem.boot_len (pa_cons (pv 3) pa_nil)) pe_int (nomark _))))) (pss_one (ps_ret pe_bl)) pss_nil)
      (pss_cons (ps_asg (pv 3) (kpg_tup (K := K) (n := 5) (by rfl) (pgs_cons (pg_name (i := 4) nd_L_due_of (by rfl) (by first | exact Or.inl rfl | exact Or.inr rfl)) (pgs_cons (pg_name (i := 5) nd_L_due_of (by rfl) (by first | exact Or.inl rfl | exact Or.inr rfl)) (pgs_cons (pg_name (i := 6) nd_L_due_of (by rfl) (by first | exact Or.inl rfl | exact Or.inr rfl)) (pgs_cons (pg_name (i := 7) nd_L_due_of (by rfl) (by first | exact Or.inl rfl | exact Or.inr rfl)) (pgs_cons (pg_name (i := 8) nd_L_due_of (by rfl) (by first | exact Or.inl rfl | exact Or.inr rfl)) pgs_nil)))))))
      (pss_cons (ps_if (pt_not (pt_val (pe_callH h_L_numbers_are hr (by rfl) (pa_cons (pv 4) (pa_cons (pe_callB (call_min2 (by rfl)) (by rfl) T.n_min boot_minB (pa_cons (pv 1) (pa_cons (pv 2) pa_nil))) pa_nil))))) (pss_one (ps_ret pe_bl)) pss_nil)
      (pss_cons (ps_if (PW.pt (pw_or (pt_not (pt_val (pe_callH h_L_square_is hr (by rfl) (pa_cons (pv 5) (pa_cons (pv 1) pa_nil))))) (pw_or1 (pt_not (pt_val (pe_callH h_L_square_is hr (by rfl) (pa_cons (pv 6) (pa_cons (pv 1) pa_nil)))))))) (pss_one (ps_ret pe_bl)) pss_nil)
      (pss_cons (ps_if (PW.pt (pw_or (pt_not (pt_val (pe_callH h_L_square_is hr (by rfl) (pa_cons (pv 7) (pa_cons (pv 2) pa_nil))))) (pw_or1 (pt_not (pt_val (pe_callH h_L_square_is hr (by rfl) (pa_cons (pv 8) (pa_cons (pv 2) pa_nil)))))))) (pss_one (ps_ret pe_bl)) pss_nil)
      (pss_cons (ps_set (i := 9) nd_L_due_of (by rfl) (by first | exact Or.inl rfl | exact Or.inr rfl) (pe_callH h_L_product hr (by rfl) (pa_cons (pe_callH h_L_product hr (by rfl) (pa_cons (pv 5) (pa_cons (pv 0) (pa_cons (pv 2) pa_nil)))) (pa_cons (pv 7) (pa_cons (pv 2) pa_nil)))))
      (pss_cons (ps_for PassesOwn.never rfl (pi_range1 (by rfl) T.n_range (pa_cons (pv 1) pa_nil)) (pg_name (i := 10) nd_L_due_of (by rfl) (by first | exact Or.inl rfl | exact Or.inr rfl)) (pss_one (ps_for PassesOwn.never rfl (pi_range1 (by rfl) T.n_range (pa_cons (pv 2) pa_nil)) (pg_name (i := 11) nd_L_due_of (by rfl) (by first | exact Or.inl rfl | exact Or.inr rfl)) (pss_cons (ps_set (i := 12) nd_L_due_of (by rfl) (by first | exact Or.inl rfl | exact Or.inr rfl) pe_int)
      (pss_cons (ps_if (PW.pt (pw_and (pt_cmpR op_eq (pv 10) (pv 11) (nomark _)) (pw_and1 (pt_cmpR op_lt (pv 10) (pe_callB (kcall_len_seq (K := K)) (by rfl) T.n_len PySem.boot_len (pa_cons (pv 4) pa_nil)) (nomark _))))) (pss_one (ps_set (i := 12) nd_L_due_of (by rfl) (by first | exact Or.inl rfl | exact Or.inr rfl) (pe_ix (kix_list (K := K)) (pv 4) (pv 10) (fun _ _ => rfl)))) pss_nil)
      (pss_one (ps_if (pt_cmpR op_ne (pe_ix (kix_list (K := K)) (pe_ix (kix_list (K := K)) (pv 9) (pv 10) (fun _ _ => rfl)) (pv 11) (fun _ _ => rfl)) (pv 12) (nomark _)) (pss_one (ps_ret pe_bl)) pss_nil)))))))
      (pss_one (ps_ret (pe_and (pe_callH h_L_backs hr (by rfl) (pa_cons (pv 5) (pa_cons (pv 6) (pa_cons (pv 1) pa_nil)))) (pe_one (pe_callH h_L_backs hr (by rfl) (pa_cons (pv 7) (pa_cons (pv 8) (pa_cons (pv 2) pa_nil))))))))))))))), ?_⟩
    obtain ⟨a, us, rfl, hq, hul, _⟩ := dT_sq hu
    cases p with
    | data t =>
      refine ⟨_, rfl, v, "tuple", rfl, .inr (.inr (.inr (.inl rfl))), .inl ⟨t, hp.1, _, rfl, ?_⟩⟩
      rw [hp.2]
      refine ifP rfl ?_
      refine ifP rfl ?_
      exact k H (Same.refl H)
    | tup ts =>
      obtain ⟨b, vs, rfl, hb, hr⟩ := hp
      have hvl := hr.len
      refine ⟨_, rfl, _, "tuple", rfl, .inr (.inr (.inr (.inl rfl))), .inr ⟨b, vs, rfl, hb, _, rfl, ?_⟩⟩
      refine ifN (by decide) ?_
      refine ⟨_, rfl, b, _, rfl, .inr (.of hb), rfl, _, rfl, ?_⟩
      refine ite2 (fun h1 => ?_) (fun h1 => ?_)
      · have h2 : ts.length ≠ 5 := by
          have : ¬ (vs.length : Int) = 5 := by simpa using h1
          omega
        have k1 := k H (Same.refl H)
        have e : lookP h w fn (.tup ts) = false := by
          match ts, h2 with
          | [], _ => rfl
          | [_], _ => rfl
          | [_, _], _ => rfl
          | [_, _, _], _ => rfl
          | [_, _, _, _], _ => rfl
          | [_, _, _, _, _], z => exact absurd rfl z
          | _ :: _ :: _ :: _ :: _ :: _ :: _, _ => rfl
        rw [e] at k1
        exact k1
      · have h2 : ts.length = 5 := by
          have : (vs.length : Int) = 5 := by simpa using h1
          omega
        match ts, h2, vs, hr, hb, hok, k with
        | [t0, t1, t2, t3, t4], _, [v0, v1, v2, v3, v4], ⟨r0, r1, r2, r3, r4, _⟩, hb, hok, k =>
          obtain ⟨z0, b0⟩ := hok.2 t0 (by simp)
          obtain ⟨z1, b1⟩ := hok.2 t1 (by simp)
          obtain ⟨z2, b2⟩ := hok.2 t2 (by simp)
          obtain ⟨z3, b3⟩ := hok.2 t3 (by simp)
          obtain ⟨z4, b4⟩ := hok.2 t4 (by simp)
          have k1 : ∀ H', Same H H' → Q (.bl _) H' := fun H' s' => lookP5 h w fn t0 t1 t2 t3 t4 ▸ k H' s'
          unfold turnT at k1
          refine ⟨_, rfl, b, _, rfl, .of hb, rfl, _, _, rfl, _, _, rfl, _, _, rfl, _, _, rfl, _, _, rfl, rfl, ?_⟩
          refine ⟨_, rfl, _, rfl, _, rfl, _, _, rfl, v0, t0, _, rfl, r0, z0, fun H1 s1 => ?_⟩
          cases hn : numsOk (if (w : Int) < (h : Int) then (w : Int) else (h : Int)) t0 with
          | false =>
            refine ⟨_, rfl, ?_⟩
            refine ifP rfl ?_
            have k2 := k1 H1 s1
            rw [hn] at k2
            exact k2
          | true =>
            refine ⟨_, rfl, ?_⟩
            refine ifN (by decide) ?_
            rw [hn] at k1
            obtain ⟨an, ean, hqn⟩ := nums_seq r0 hn
            subst ean
            have nosq : ∀ G, Same H G → (sqT (h : Int) t1 && sqT (h : Int) t2) = false ∨ (sqT (w : Int) t3 && sqT (w : Int) t4) = false → Q (.bl false) G := fun G g z => by
              have k2 := k1 G g
              rcases z with z | z <;> rw [z] at k2 <;> simpa using k2
            refine ⟨_, rfl, _, rfl, v1, t1, (h : Int), rfl, RepT.same s1 r1, z1, fun H2 s2 => ?_⟩
            have s12 := s1.trans s2
            cases q1 : sqT (h : Int) t1 with
            | false =>
              refine ⟨_, rfl, ?_⟩
              refine ifP rfl ?_
              refine ifP rfl ?_
              exact nosq _ s12 (.inl (by rw [q1]; rfl))
            | true =>
            refine ⟨_, rfl, ?_⟩
            refine ifN (by decide) ?_
            refine ⟨_, rfl, _, rfl, v2, t2, (h : Int), rfl, RepT.same s12 r2, z2, fun H3 s3 => ?_⟩
            have s13 := s12.trans s3
            cases q2 : sqT (h : Int) t2 with
            | false =>
              refine ⟨_, rfl, ?_⟩
              refine ifP rfl ?_
              exact nosq _ s13 (.inl (by rw [q2, Bool.and_false]))
            | true =>
            refine ⟨_, rfl, ?_⟩
            refine ifN (by decide) ?_
            refine ⟨_, rfl, _, rfl, v3, t3, (w : Int), rfl, RepT.same s13 r3, z3, fun H4 s4 => ?_⟩
            have s14 := s13.trans s4
            cases q3 : sqT (w : Int) t3 with
            | false =>
              refine ⟨_, rfl, ?_⟩
              refine ifP rfl ?_
              refine ifP rfl ?_
              exact nosq _ s14 (.inr (by rw [q3]; rfl))
            | true =>
            refine ⟨_, rfl, ?_⟩
            refine ifN (by decide) ?_
            refine ⟨_, rfl, _, rfl, v4, t4, (w : Int), rfl, RepT.same s14 r4, z4, fun H5 s5 => ?_⟩
            have s15 := s14.trans s5
            cases q4 : sqT (w : Int) t4 with
            | false =>
              refine ⟨_, rfl, ?_⟩
              refine ifP rfl ?_
              exact nosq _ s15 (.inr (by rw [q4, Bool.and_false]))
            | true =>
            refine ⟨_, rfl, ?_⟩
            refine ifN (by decide) ?_
            rw [q1, q2, q3, q4] at k1
            simp only [Bool.true_and] at k1
            clear nosq
            refine ⟨_, rfl, _, rfl, _, rfl, v1, .ref a, h, h, w, tabF t1, fn, rfl, Rep.same s15 (sq_rep r1 q1), Rep.same s15 hu, by omega, by omega, by omega, fun i k j _ _ _ => mulok (b1 i k) (bf k j) (by omega), fun D1 as1 H6 hl1 R1 => ?_⟩
            have s16 := s15.trans R1.same
            refine ⟨_, rfl, _, rfl, .ref D1, v3, h, w, w, prodF h (tabF t1) fn, tabF t3, rfl, R1.rep hl1, Rep.same s16 (sq_rep r3 q3), by omega, by omega, by omega, fun i k j _ _ _ => mulok (bd_prod b1 bf i k) (b3 k j) (by omega), fun D2 as2 H7 hl2 R2 => ?_⟩
            have s17 := s16.trans R2.same
            generalize hF : prodF w (prodF h (tabF t1) fn) (tabF t3) = F at k1 R2
            have hnq := s17.seq hqn
            generalize intsT t0 = ns at k1 hnq
            have bad : ∀ i j, i < h → j < w → F i j ≠ diagF ns i j → Q (.bl false) H7 := fun i j hi hj hne => by
              have k2 := k1 H7 s17
              have e : eqTab h w F (diagF ns) = false := by
                cases q : eqTab h w F (diagF ns) with
                | false => rfl
                | true => exact absurd (eqTab_iff.mp q i j hi hj) hne
              rw [e, Bool.and_false] at k2
              exact k2
            refine ⟨_, rfl, _, rfl, by omega, by omega, ?_⟩
            refine for_range (lo := 0) (n := ((h : Int)).toNat) (fun i σ G => ∃ o1 o2 o3 : Option V, σ = [some (.ref a), some (.int (h : Int)), some (.int (w : Int)), some (.ref b), some (.ref an), some v1, some v2, some v3, some v4, some (.ref D2), o1, o2, o3] ∧ H7 = G ∧ ∀ i' j, i' < i → j < w → F i' j = diagF ns i' j) ⟨none, none, none, rfl, rfl, fun _ _ z => absurd z (Nat.not_lt_zero _)⟩ ?_ ?_
            · rintro i σ G hi ⟨o1, o2, o3, rfl, rfl, hall⟩
              rw [Int.toNat_natCast] at hi
              refine ⟨_, rfl, _, rfl, by omega, by omega, ?_⟩
              refine for_range (lo := 0) (n := ((w : Int)).toNat) (fun j σ G => ∃ o2 o3 : Option V, σ = [some (.ref a), some (.int (h : Int)), some (.int (w : Int)), some (.ref b), some (.ref an), some v1, some v2, some v3, some v4, some (.ref D2), some (.int (0 + (i : Int))), o2, o3] ∧ H7 = G ∧ ∀ j', j' < j → F i j' = diagF ns i j') ⟨_, _, rfl, rfl, fun _ z => absurd z (Nat.not_lt_zero _)⟩ ?_ ?_
              · rintro j σ G hj ⟨o2', o3', rfl, rfl, hrow⟩
                rw [Int.toNat_natCast] at hj
                refine tSeq_cut (fun σ' H' => σ' = [some (.ref a), some (.int (h : Int)), some (.int (w : Int)), some (.ref b), some (.ref an), some v1, some v2, some v3, some v4, some (.ref D2), some (.int (0 + (i : Int))), some (.int (0 + (j : Int))), some (.int 0)] ∧ H7 = H') ?_ fun key0 => key0 _ _ ⟨rfl, rfl⟩
                rintro _ _ ⟨rfl, rfl⟩
                refine tSeq_cut (fun σ' H' => σ' = [some (.ref a), some (.int (h : Int)), some (.int (w : Int)), some (.ref b), some (.ref an), some v1, some v2, some v3, some v4, some (.ref D2), some (.int (0 + (i : Int))), some (.int (0 + (j : Int))), some (.int (diagF ns i j))] ∧ H7 = H') ?_ fun key => ?_
                rotate_left
                · refine ⟨_, rfl, _, rfl, rfl, _, rfl, ?_⟩
                  refine ite2 (fun h3 => ?_) (fun h3 => ?_)
                  · have z : j = i := by have := V.int.inj (of_decide_eq_true h3); omega
                    subst z
                    refine ⟨_, rfl, _, rfl, an, _, rfl, .inl hnq, _, _, rfl, rfl, _, rfl, ?_⟩
                    refine ite2 (fun h4 => ?_) (fun h4 => ?_)
                    · have h5 : j < ns.length := by
                        have : (0 : Int) + (j : Int) < ((ns.map V.int).length : Int) := of_decide_eq_true h4
                        rw [List.length_map] at this
                        omega
                      refine ⟨_, rfl, _, rfl, an, _, _, _, rfl, rfl, hnq, (by rw [Int.zero_add]; exact atI_nat (j := j) (by rw [List.getElem?_map, List.getElem?_eq_getElem h5]; rfl)), ?_⟩
                      have e : diagF ns j j = ns[j] := by
                        unfold diagF
                        rw [if_pos rfl, List.getD_eq_getElem?_getD, List.getElem?_eq_getElem h5]
                        rfl
                      exact key _ _ ⟨by rw [e]; rfl, rfl⟩
                    · have h5 : ¬ j < ns.length := fun z => h4 (decide_eq_true (by rw [List.length_map]; omega))
                      have e : diagF ns j j = 0 := by
                        unfold diagF
                        rw [if_pos rfl, List.getD_eq_getElem?_getD, List.getElem?_eq_none (by omega)]
                        rfl
                      exact key _ _ ⟨by rw [e], rfl⟩
                  · refine ifN (by simp) ?_
                    have z : ¬ j = i := fun z => h3 (decide_eq_true (by rw [z]))
                    have e : diagF ns i j = 0 := by unfold diagF; rw [if_neg z]
                    exact key _ _ ⟨by rw [e], rfl⟩
                rintro _ _ ⟨rfl, rfl⟩
                have hia : i < as2.length := by omega
                obtain ⟨_, _, hrw⟩ := R2.row i as2[i] (List.getElem?_eq_getElem hia)
                refine ⟨_, rfl, _, rfl, D2, _, _, _, rfl, rfl, .of R2.at, (by rw [Int.zero_add]; exact atI_nat (j := i) (by rw [List.getElem?_map, List.getElem?_eq_getElem hia]; rfl)), _, rfl, as2[i], _, _, _, rfl, rfl, .of hrw, VI_at0 hj, _, rfl, rfl, _, rfl, ?_⟩
                refine ite2 (fun h3 => ?_) (fun h3 => ?_)
                · exact bad i j hi hj (by simpa using h3)
                · refine ⟨_, _, rfl, rfl, fun j' hj' => ?_⟩
                  by_cases z : j' = j
                  · rw [z]; simpa using h3
                  · exact hrow j' (by omega)
              · rintro σ G ⟨o2', o3', rfl, rfl, hrow⟩
                rw [Int.toNat_natCast] at hrow
                refine ⟨_, _, _, rfl, rfl, fun i' j hi' hj => ?_⟩
                by_cases z : i' = i
                · rw [z]; exact hrow j hj
                · exact hall i' j (by omega) hj
            · rintro σ G ⟨o1, o2, o3, rfl, rfl, hall⟩
              rw [Int.toNat_natCast] at hall
              have e : eqTab h w F (diagF ns) = true := eqTab_iff.mpr hall
              rw [e] at k1
              simp only [Bool.and_true] at k1
              refine ⟨_, rfl, _, rfl, _, rfl, v1, v2, h, B, tabF t1, tabF t2, rfl, Rep.same s17 (sq_rep r1 q1), Rep.same s17 (sq_rep r2 q2), b1, b2, hB, by omega, fun H8 s8 => ?_⟩
              rw [both_eq hh]
              refine ⟨_, rfl, ?_⟩
              refine ite2 (fun h3 => ?_) (fun h3 => ?_)
              · refine ⟨_, rfl, _, rfl, _, rfl, v3, v4, w, B, tabF t3, tabF t4, rfl, Rep.same (s17.trans s8) (sq_rep r3 q3), Rep.same (s17.trans s8) (sq_rep r4 q4), b3, b4, hB, by omega, fun H9 s9 => ?_⟩
                rw [both_eq hw]
                have k2 := k1 H9 ((s17.trans s8).trans s9)
                rw [show eqTab h h (prodF h (tabF t1) (tabF t2)) oneF = true from h3, Bool.true_and] at k2
                exact k2
              · have k2 := k1 H8 (s17.trans s8)
                have h4 : eqTab h h (prodF h (tabF t1) (tabF t2)) oneF = false := by simpa using h3
                rw [h4] at k2
                first | exact k2 | (rw [h4]; exact k2)
abbrev s_are_turns : Stmt := top 16
theorem sc_are_turns : FnScope ["one", "back", "size"] ["one", "back", "size"] (defScope s_are_turns) := ⟨rfl, rfl, rfl, by decide +kernel, rfl, by decide +kernel, by decide +kernel⟩
theorem ok_are_turns {f : Addr} {fd : FuncData} (F : Fun K "are_turns" "are_turns" s_are_turns f fd) (T : Txt K mg) (h_product : Has P w K mg base "product" ["one", "other", "width"] 3 (sp_product K)) (h_ones : Has P w K mg base "ones" ["size"] 2 (sp_ones K)) (h_is_square : Has P w K mg base "is_square" ["thing", "size"] 3 (sp_is_square K)) : FnOk P w K mg base CX0 4 f fd ["one", "back", "size"] (sp_are_turns K) := by
  refine F.ok sc_are_turns (fun vs H Q E h => ?_) (fun cdv A outer s H vs Q E hr h => ?_)
  · obtain ⟨v, u, t, tb, n, B, rfl, hv, hu, hzt, hzs, bt, bs, hB, hn, k⟩ := h
    rfl
  · obtain ⟨v, u, t, tb, n, B, rfl, hv, hu, hzt, hzs, bt, bs, hB, hn, k⟩ := h
    have hu8 : (A.deeper (PyProof.Rows.envOfC "are_turns" (defScope s_are_turns) s.heap.objs.size f cdv)).units + 8 < cLine := by have := hr.units; omega
    refine ⟨_, (pss_cons (ps_if (PW.pt (pw_or (pt_not (pt_val (pe_callH h_is_square hr (by rfl) (pa_cons (pv 0) (pa_cons (pv 2) pa_nil))))) (pw_or1 (pt_not (pt_val (pe_callH h_is_square hr (by rfl) (pa_cons (pv 1) (pa_cons (pv 2) pa_nil)))))))) (pss_one (ps_ret pe_bl)) pss_nil)
      (pss_one (ps_ret (pe_cmpR (kop_eqD (K := K) hu8) (pe_callH h_product hr (by rfl) (pa_cons (pv 0) (pa_cons (pv 1) (pa_cons (pv 2) pa_nil)))) (pe_callH h_ones hr (by rfl) (pa_cons (pv 2) pa_nil)) (nomark _))))), ?_⟩
    refine ⟨_, rfl, _, rfl, v, t, (n : Int), rfl, hv, hzt, fun H1 s1 => ?_⟩
    cases hs : sqT (n : Int) t with
    | false =>
      refine ⟨_, rfl, ?_⟩
      refine ifP rfl ?_
      refine ifP rfl ?_
      have k1 := k H1 s1
      unfold turnT at k1
      rw [hs] at k1
      exact k1
    | true =>
      refine ⟨_, rfl, ?_⟩
      refine ifN (by decide) ?_
      refine ⟨_, rfl, _, rfl, u, tb, (n : Int), rfl, RepT.same s1 hu, hzs, fun H2 s2 => ?_⟩
      cases hs2 : sqT (n : Int) tb with
      | false =>
        refine ⟨_, rfl, ?_⟩
        refine ifP rfl ?_
        have k1 := k H2 (s1.trans s2)
        unfold turnT at k1
        rw [hs, hs2] at k1
        exact k1
      | true =>
        refine ⟨_, rfl, ?_⟩
        refine ifN (by decide) ?_
        have s12 := s1.trans s2
        refine ⟨_, rfl, _, rfl, _, rfl, v, u, n, n, n, tabF t, tabF tb, rfl, Rep.same s12 (sq_rep hv hs), Rep.same s12 (sq_rep hu hs2), hn, hn, hn, fun i k j _ _ _ => mulok (bt i k) (bs k j) (by omega), fun D as H3 hl R => ?_⟩
        refine ⟨_, rfl, n, rfl, hn, fun D2 as2 H4 hl2 R2 => ?_⟩
        refine ⟨dT n n (prodF n (tabF t) (tabF tb)), dT n n oneF, Rep.same R2.same (R.rep hl), R2.rep hl2, (by have := deps_dLs n (prodF n (tabF t) (tabF tb)) (List.range n); show deps _ + 1 ≤ 8; omega), ?_⟩
        rw [eqD_dT]
        have k1 := k H4 ((s12.trans R.same).trans R2.same)
        unfold turnT at k1
        rw [hs, hs2] at k1
        exact k1
abbrev s_diagonal_holds : Stmt := top 13
theorem sc_diagonal_holds : FnScope ["table", "width", "thing", "height", "turned"] ["table", "width", "thing"] (defScope s_diagonal_holds) := ⟨rfl, rfl, rfl, by decide +kernel, rfl, by decide +kernel, by decide +kernel⟩
theorem nd_diagonal_holds : (["table", "width", "thing", "height", "turned"] : List Str).Nodup := by decide +kernel

theorem ok_diagonal_holds {f : Addr} {fd : FuncData} (F : Fun K "diagonal_holds" "diagonal_holds" s_diagonal_holds f fd) (T : Txt K mg) (h_product : Has P w K mg base "product" ["one", "other", "width"] 3 (sp_product K)) (h_are_numbers : Has P w K mg base "are_numbers" ["thing", "most"] 3 (sp_are_numbers K)) (h_are_turns : Has P w K mg base "are_turns" ["one", "back", "size"] 4 (sp_are_turns K)) (h_straight_row : Has P w K mg base "straight_row" ["numbers", "i", "width"] 2 (sp_straight_row K)) : FnOk P w K mg base CX0 5 f fd ["table", "width", "thing"] (sp_diagonal_holds K) := by
  refine F.ok sc_diagonal_holds (fun vs H Q E h => ?_) (fun cdv A outer s H vs Q E hr h => ?_)
  · obtain ⟨u, v, h, w, B, fn, p, rfl, hu, hh, hw, bf, hB, hp, hok, k⟩ := h
    rfl
  · obtain ⟨u, v, h, w, B, fn, p, rfl, hu, hh, hw, bf, hB, hp, hok, k⟩ := h
    have hu8 : (A.deeper (PyProof.Rows.envOfC "diagonal_holds" (defScope s_diagonal_holds) s.heap.objs.size f cdv)).units + 8 < cLine := by have := hr.units; omega
    refine ⟨_, (pss_cons (ps_set (i := 3) nd_diagonal_holds (by rfl) (by first | exact Or.inl rfl | exact Or.inr rfl) (pe_callB (kcall_len_seq (K := K)) (by rfl) T.n_len PySem.boot_len (pa_cons (pv 0) pa_nil)))
      (pss_cons (ps_if (PW.pt (pw_or (pt_not (pt_val (pe_callB (call_isiP (K := K)) (by rfl) T.n_isinstance boot_isinstanceB (pa_cons (pv 2) (pa_cons (pe_bltn (v := .ty "tuple") rfl T.n_tuple boot_tupleT rfl) pa_nil))))) (pw_or (pt_cmpR op_ne (pe_callB (kcall_len_seq (K := K)) (by rfl) T.n_len PySem.boot_len (pa_cons (pv 2) pa_nil)) pe_int (nomark _)) (pw_or1 (pt_not (pt_val (pe_callH h_are_numbers hr (by rfl) (pa_cons (pe_ix (kix_tup (K := K)) (pv 2) pe_int (fun _ _ => rfl)) (pa_cons (pe_callB (call_min2 (by rfl)) (by rfl) T.n_min boot_minB (pa_cons (pv 3) (pa_cons (pv 1) pa_nil))) pa_nil))))))))) (pss_one (ps_ret pe_bl)) pss_nil)
      (pss_cons (ps_if (PW.pt (pw_or (pt_not (pt_val (pe_callH h_are_turns hr (by rfl) (pa_cons (pe_ix (kix_tup (K := K)) (pv 2) pe_int (fun _ _ => rfl)) (pa_cons (pe_ix (kix_tup (K := K)) (pv 2) pe_int (fun _ _ => rfl)) (pa_cons (pv 3) pa_nil)))))) (pw_or1 (pt_not (pt_val (pe_callH h_are_turns hr (by rfl) (pa_cons (pe_ix (kix_tup (K := K)) (pv 2) pe_int (fun _ _ => rfl)) (pa_cons (pe_ix (kix_tup (K := K)) (pv 2) pe_int (fun _ _ => rfl)) (pa_cons (pv 1) pa_nil))))))))) (pss_one (ps_ret pe_bl)) pss_nil)
      (pss_cons (ps_set (i := 4) nd_diagonal_holds (by rfl) (by first | exact Or.inl rfl | exact Or.inr rfl) (pe_callH h_product hr (by rfl) (pa_cons (pe_callH h_product hr (by rfl) (pa_cons (pe_ix (kix_tup (K := K)) (pv 2) pe_int (fun _ _ => rfl)) (pa_cons (pv 0) (pa_cons (pv 1) pa_nil)))) (pa_cons (pe_ix (kix_tup (K := K)) (pv 2) pe_int (fun _ _ => rfl)) (pa_cons (pv 1) pa_nil)))))
      (pss_one (ps_ret (pe_cmpR (kop_eqD (K := K) hu8) (pv 4) (pe_comp (N' := ["i", "thing", "width"]) (cap := [none, some 2, some 1]) (by rfl) (by kernel_rfl) (pi_range1 (by rfl) T.n_range (pa_cons (pv 3) pa_nil)) (fun _ _ _ _ => (pg_name (i := 0) ndc_5 (by rfl) (by first | exact Or.inl rfl | exact Or.inr rfl))) (fun _ _ _ _ => pts_nil) (fun _ _ _ _ => (pe_callH h_straight_row hr (by rfl) (pa_cons (pe_ix (kix_tup (K := K)) (pv 1) pe_int (fun _ _ => rfl)) (pa_cons (pv 0) (pa_cons (pv 2) pa_nil)))))) (nomark _)))))))), ?_⟩
    obtain ⟨a, us, rfl, hq, hul, _⟩ := dT_sq hu
    refine tSeq_cut (fun σ' H' => σ' = [some (.ref a), some (.int (w : Int)), some v, some (.int (h : Int)), none] ∧ H = H') ?_ fun key => ?_
    rotate_left
    · refine ⟨_, rfl, a, _, rfl, .inl hq, ?_⟩
      rw [hul]
      exact key _ _ ⟨rfl, rfl⟩
    rintro _ _ ⟨rfl, rfl⟩
    cases p with
    | data t =>
      refine ⟨_, rfl, v, "tuple", rfl, .inr (.inr (.inr (.inl rfl))), .inl ⟨t, hp.1, _, rfl, ?_⟩⟩
      rw [hp.2]
      refine ifP rfl ?_
      refine ifP rfl ?_
      exact k H (Same.refl H)
    | tup ts =>
      obtain ⟨b, vs, rfl, hb, hr⟩ := hp
      have hvl := hr.len
      refine ⟨_, rfl, _, "tuple", rfl, .inr (.inr (.inr (.inl rfl))), .inr ⟨b, vs, rfl, hb, _, rfl, ?_⟩⟩
      refine ifN (by decide) ?_
      refine ⟨_, rfl, b, _, rfl, .inr (.of hb), rfl, _, rfl, ?_⟩
      refine ite2 (fun h1 => ?_) (fun h1 => ?_)
      · refine ifP rfl ?_
        have h2 : ts.length ≠ 5 := by
          have : ¬ (vs.length : Int) = 5 := by simpa using h1
          omega
        have k1 := k H (Same.refl H)
        have e : lookP h w fn (.tup ts) = false := by
          match ts, h2 with
          | [], _ => rfl
          | [_], _ => rfl
          | [_, _], _ => rfl
          | [_, _, _], _ => rfl
          | [_, _, _, _], _ => rfl
          | [_, _, _, _, _], z => exact absurd rfl z
          | _ :: _ :: _ :: _ :: _ :: _ :: _, _ => rfl
        rw [e] at k1
        exact k1
      · have h2 : ts.length = 5 := by
          have : (vs.length : Int) = 5 := by simpa using h1
          omega
        match ts, h2, vs, hr, hb, hok, k with
        | [t0, t1, t2, t3, t4], _, [v0, v1, v2, v3, v4], ⟨r0, r1, r2, r3, r4, _⟩, hb, hok, k =>
          obtain ⟨z0, b0⟩ := hok.2 t0 (by simp)
          obtain ⟨z1, b1⟩ := hok.2 t1 (by simp)
          obtain ⟨z2, b2⟩ := hok.2 t2 (by simp)
          obtain ⟨z3, b3⟩ := hok.2 t3 (by simp)
          obtain ⟨z4, b4⟩ := hok.2 t4 (by simp)
          have sb : ∀ {G : Hp}, Same H G → SqT K G b [v0, v1, v2, v3, v4] := fun g => .of (g _ _ hb)
          refine ⟨_, rfl, b, _, _, _, rfl, rfl, sb (Same.refl H), rfl, _, rfl, _, rfl, _, _, rfl, v0, t0, _, rfl, r0, z0, fun H1 s1 => ?_⟩
          have k1 : ∀ H', Same H H' → Q (.bl _) H' := fun H' s' => lookP5 h w fn t0 t1 t2 t3 t4 ▸ k H' s'
          cases hn : numsOk (if (w : Int) < (h : Int) then (w : Int) else (h : Int)) t0 with
          | false =>
            refine ⟨_, rfl, ?_⟩
            refine ifP rfl ?_
            have k2 := k1 H1 s1
            rw [hn] at k2
            exact k2
          | true =>
            refine ⟨_, rfl, ?_⟩
            refine ifN (by decide) ?_
            rw [hn] at k1
            refine ⟨_, rfl, b, _, _, _, rfl, rfl, sb s1, rfl, _, rfl, b, _, _, _, rfl, rfl, sb s1, rfl, _, rfl, v1, v2, t1, t2, h, B, rfl, RepT.same s1 r1, RepT.same s1 r2, z1, z2, b1, b2, hB, by omega, fun H2 s2 => ?_⟩
            have s12 := s1.trans s2
            cases ht : turnT h t1 t2 with
            | false =>
              refine ⟨_, rfl, ?_⟩
              refine ifP rfl ?_
              refine ifP rfl ?_
              have k2 := k1 H2 s12
              rw [ht] at k2
              exact k2
            | true =>
              refine ⟨_, rfl, ?_⟩
              refine ifN (by decide) ?_
              rw [ht] at k1
              refine ⟨_, rfl, b, _, _, _, rfl, rfl, sb s12, rfl, _, rfl, b, _, _, _, rfl, rfl, sb s12, rfl, _, rfl, v3, v4, t3, t4, w, B, rfl, RepT.same s12 r3, RepT.same s12 r4, z3, z4, b3, b4, hB, by omega, fun H3 s3 => ?_⟩
              have s13 := s12.trans s3
              cases hu2 : turnT w t3 t4 with
              | false =>
                refine ⟨_, rfl, ?_⟩
                refine ifP rfl ?_
                have k2 := k1 H3 s13
                rw [hu2] at k2
                exact k2
              | true =>
                refine ⟨_, rfl, ?_⟩
                refine ifN (by decide) ?_
                rw [hu2] at k1
                have ht' : sqT (h : Int) t1 = true := by
                  unfold turnT at ht
                  simp only [Bool.and_eq_true] at ht
                  exact ht.1.1
                have hu' : sqT (w : Int) t3 = true := by
                  unfold turnT at hu2
                  simp only [Bool.and_eq_true] at hu2
                  exact hu2.1.1
                refine ⟨_, rfl, b, _, _, _, rfl, rfl, sb s13, rfl, _, rfl, _, rfl, v1, .ref a, h, h, w, tabF t1, fn, rfl, Rep.same s13 (sq_rep r1 ht'), Rep.same s13 hu, by omega, by omega, by omega, fun i k j _ _ _ => mulok (b1 i k) (bf k j) (by omega), fun D1 as1 H4 hl1 R1 => ?_⟩
                have s14 := s13.trans R1.same
                refine ⟨_, rfl, b, _, _, _, rfl, rfl, sb s14, rfl, _, rfl, .ref D1, v3, h, w, w, prodF h (tabF t1) fn, tabF t3, rfl, R1.rep hl1, Rep.same s14 (sq_rep r3 hu'), by omega, by omega, by omega, fun i k j _ _ _ => mulok (bd_prod b1 bf i k) (b3 k j) (by omega), fun D2 as2 H5 hl2 R2 => ?_⟩
                have s15 := s14.trans R2.same
                have rD : Rep K H5 (.ref D2) (dT h w (prodF w (prodF h (tabF t1) fn) (tabF t3))) := R2.rep hl2
                obtain ⟨an, ean, hqn⟩ := nums_seq r0 hn
                subst ean
                refine ⟨_, rfl, _, rfl, _, rfl, by omega, by omega, fun D hD => ?_⟩
                refine comp_range0 (fun i ys τ H6 => i ≤ h ∧ ∃ as : List Addr, as.length = i ∧ ys = as.map V.ref ∧ Rows H5 H6 D as w (diagF (intsT t0)) ∧ ∃ o, τ = [o, some (.ref b), some (.int (w : Int))]) ⟨Nat.zero_le _, [], rfl, rfl, Rows.nil hD, none, rfl⟩ ?_ ?_
                · rintro i ys τ H6 hi ⟨hih, as, hal, rfl, R, o, rfl⟩
                  rw [Int.toNat_natCast] at hi
                  refine ⟨_, rfl, b, _, _, _, rfl, rfl, sb (s15.trans R.same), rfl, _, rfl, _, rfl, an, intsT t0, i, w, by rw [Int.zero_add]; rfl, (s15.trans R.same).seq hqn, by omega, fun E H7 hE s7 hE7 => ?_⟩
                  refine ⟨s7 _ _ R.at, small (by rw [List.length_map]; omega), hi, as ++ [E], by rw [List.length_append, hal]; rfl, by rw [List.map_append]; rfl, ?_, _, rfl⟩
                  refine R.push hE s7 ?_
                  rw [hal]
                  exact hE7
                · rintro ys τ H6 ⟨_, as, hal, rfl, R, _⟩
                  rw [Int.toNat_natCast] at hal
                  refine ⟨_, _, Rep.same R.same rD, R.rep hal, dep_dT h w _, ?_⟩
                  rw [eqD_dT]
                  exact k1 H6 (s15.trans R.same)
abbrev s_law : Stmt := top 35
theorem sc_law : FnScope ["_law_script", "_law_drawn_here", "_law_cell", "_law_size", "_law_width", "_law_table", "_law_papers", "_law_due", "_law_turn", "_law_found"] ["_law_script"] (defScope s_law) := ⟨rfl, rfl, rfl, by decide +kernel, rfl, by decide +kernel, by decide +kernel⟩
theorem nd_law : (["_law_script", "_law_drawn_here", "_law_cell", "_law_size", "_law_width", "_law_table", "_law_papers", "_law_due", "_law_turn", "_law_found"] : List Str).Nodup := by decide +kernel

theorem ok_law {f : Addr} {fd : FuncData} (F : Fun K "law" "law" s_law f fd) (T : Txt K mg) (h_L_drawn : Has P w K mg base "_law_drawn" ["_law_script"] 2 (sp_L_drawn66 K)) (h_L_spoilt : Has P w K mg base "_law_spoilt" ["_law_script", "_law_papers"] 2 (sp_L_spoilt66 K)) (h_L_due_of : Has P w K mg base "_law_due_of" ["_law_table", "_law_size", "_law_width", "_law_papers"] 3 (sp_L_due66 K)) (h_L_turned : Has P w K mg base "_law_turned" ["_law_drawn_here", "_law_cell"] 2 (sp_L_turned66 K)) (h_diagonal_holds : Has P w K mg base "diagonal_holds" ["table", "width", "thing"] 5 (sp_diagonal_holds K)) : FnOk P w K mg base CX0 6 f fd ["_law_script"] (sp_lawB K) := by
  refine F.ok sc_law (fun vs H Q E h => ?_) (fun cdv A outer s H vs Q E hr h => ?_)
  · obtain ⟨a, ns, rfl, hS, hl, hbit, k⟩ := h
    rfl
  · obtain ⟨a, ns, rfl, hS, hl, hbit, k⟩ := h
    have hu8 : (A.deeper (PyProof.Rows.envOfC "law" (defScope s_law) s.heap.objs.size f cdv)).units + 8 < cLine := by have := hr.units; omega
    refine ⟨_, (pss_cons (ps_set (i := 1) nd_law (by rfl) (by first | exact Or.inl rfl | exact Or.inr rfl) (pe_callH h_L_drawn hr (by rfl) (pa_cons (pv 0) pa_nil)))
      (pss_cons (ps_for PassesOwn.never rfl (kpi_list (K := K) (pe_slice (ksl_list (K := K)) (pv 0) (po_some pe_int) (po_some pe_int))) (pg_name (i := 2) nd_law (by rfl) (by first | exact Or.inl rfl | exact Or.inr rfl)) (pss_one (ps_set (i := 1) nd_law (by rfl) (by first | exact Or.inl rfl | exact Or.inr rfl) (pe_callH h_L_turned hr (by rfl) (pa_cons (pv 1) (pa_cons (pv 2) pa_nil))))))
      (pss_cons (ps_set (i := 3) nd_law (by rfl) (by first | exact Or.inl rfl | exact Or.inr rfl) (pe_callB (kcall_len_seq (K := K)) (by rfl) T.n_len PySem.boot_len (pa_cons (pe_ix (kix_list (K := K)) (pv 1) pe_int (fun _ _ => rfl)) pa_nil)))
      (pss_cons (ps_set (i := 4) nd_law (by rfl) (by first | exact Or.inl rfl | exact Or.inr rfl) (pe_callB (kcall_len_seq (K := K)) (by rfl) T.n_len PySem.boot_len (pa_cons (pe_ix (kix_list (K := K)) (pv 1) pe_int (fun _ _ => rfl)) pa_nil)))
      (pss_cons (ps_setC (N' := ["_law_row"]) (cap := [none]) (i := 5) nd_law (by rfl) (by first | exact Or.inl rfl | exact Or.inr rfl) (by rfl) (by kernel_rfl) (kpi_list (K := K) (pe_ix (kix_list (K := K)) (pv 1) pe_int (fun _ _ => rfl))) (fun _ _ _ _ => (pg_name (i := 0) ndc_14 (by rfl) (by first | exact Or.inl rfl | exact Or.inr rfl))) (fun _ _ _ _ => pts_nil) (fun _ _ _ _ => (pe_callTy (kcall_list_of (K := K)) (by rfl) T.n_list boot_listT (pa_cons (pv 0) pa_nil))))
      (pss_cons (ps_set (i := 6) nd_law (by rfl) (by first | exact Or.inl rfl | exact Or.inr rfl) (pe_callH h_L_spoilt hr (by rfl) (pa_cons (pv 0) (pa_cons (pe_slice (ksl_list (K := K)) (pv 1) po_none (po_some pe_int)) pa_nil))))
      (pss_cons (ps_set (i := 7) nd_law (by rfl) (by first | exact Or.inl rfl | exact Or.inr rfl) (pe_callH h_L_due_of hr (by rfl) (pa_cons (pv 5) (pa_cons (pv 3) (pa_cons (pv 4) (pa_cons (pv 6) pa_nil))))))
      (pss_cons (ps_for PassesOwn.never rfl (pi_range1 (by rfl) T.n_range (pa_cons pe_int pa_nil)) (pg_name (i := 8) nd_law (by rfl) (by first | exact Or.inl rfl | exact Or.inr rfl)) (pss_cons (ps_set (i := 9) nd_law (by rfl) (by first | exact Or.inl rfl | exact Or.inr rfl) (pe_callH h_diagonal_holds hr (by rfl) (pa_cons (pv 5) (pa_cons (pv 4) (pa_cons (pv 6) pa_nil)))))
      (pss_one (ps_if (PW.pt (pw_or (pt_not (pt_val (pe_callB (kcall_isinst (K := K)) (by rfl) T.n_isinstance boot_isinstanceB (pa_cons (pv 9) (pa_cons (pe_bltn (v := .ty "bool") rfl T.n_bool boot_boolT rfl) pa_nil))))) (pw_or1 (pt_cmpR op_ne (pv 9) (pv 7) (nomark _))))) (pss_one (ps_ret pe_bl)) pss_nil))))
      (pss_one (ps_ret (pe_and (pe_cmpR (kop_eqD (K := K) hu8) (pv 5) (pe_ix (kix_list (K := K)) (pv 1) pe_int (fun _ _ => rfl)) (nomark _)) (pe_one (pe_cmpR op_eq (pe_callH h_L_due_of hr (by rfl) (pa_cons (pv 5) (pa_cons (pv 3) (pa_cons (pv 4) (pa_cons (pv 6) pa_nil))))) (pv 7) (nomark _)))))))))))))), ?_⟩
    refine tSeq_cut (fun σ' H' => ∃ (v : V) (h w : Nat), σ' = [some (.ref a), some v, none, none, none, none, none, none, none, none] ∧ h ≤ 3 ∧ w ≤ 3 ∧ Same H H' ∧ DrawAt K H' v h w 150) ?_ fun key => ?_
    rotate_left
    · exact ⟨_, rfl, a, ns, rfl, hS, hl, fun v h w H' hh hw s d => key _ _ ⟨v, h, w, rfl, hh, hw, s, d⟩⟩
    rintro _ H1 ⟨v, h, w, rfl, hh, hw, s1, d1⟩
    refine tSeq_cut (fun σ' H' => ∃ (v : V) (o : Option V), σ' = [some (.ref a), some v, o, none, none, none, none, none, none, none] ∧ Same H H' ∧ DrawAt K H' v h w 350) ?_ fun key => ?_
    rotate_left
    · obtain ⟨cs, ec, hcl⟩ := cut_ten ns
      refine ⟨_, rfl, _, rfl, _, rfl, a, _, rfl, s1.seq hS, fun C hC => ?_⟩
      rw [ec]
      have sG1 : Same H1 (upd H1 C (.lst (cs.map V.int))) := Same.new hC
      have eG1 : upd H1 C (.lst (cs.map V.int)) C = some (.lst (cs.map V.int)) := upd_same
      generalize upd H1 C (.lst (cs.map V.int)) = G1 at sG1 eG1
      refine ⟨C, rfl, ⟨_, .of eG1⟩, ?_⟩
      refine for_list (K := K) (a := C) (xs := cs.map V.int) (fun i σ H2 => ∃ (v : V) (o : Option V), σ = [some (.ref a), some v, o, none, none, none, none, none, none, none] ∧ Same G1 H2 ∧ DrawAt K H2 v h w (150 + 20 * i)) ⟨v, none, rfl, Same.refl G1, d1.same sG1⟩ (fun i σ H2 _ ⟨_, _, _, s, _⟩ => .of (s _ _ eG1)) ?_ ?_
      · rintro i x σ H2 hx ⟨v, o, rfl, s2, d2⟩
        rw [List.getElem?_map] at hx
        obtain ⟨x1, hx1, rfl⟩ := Option.map_eq_some_iff.mp hx
        have hi : i < 10 := by have := (List.getElem?_eq_some_iff.mp hx1).1; omega
        exact ⟨_, rfl, _, rfl, v, x1, h, w, 150 + 20 * i, rfl, d2, hh, hw, by omega, fun u H3 s3 d3 => ⟨u, _, rfl, s2.trans s3, by rw [show 150 + 20 * (i + 1) = 150 + 20 * i + 20 by omega]; exact d3⟩⟩
      · rintro σ H2 ⟨v, o, rfl, s2, d2⟩
        exact key _ _ ⟨v, o, rfl, s1.trans (sG1.trans s2), d2.more (by rw [List.length_map]; omega)⟩
    rintro _ H2 ⟨v, o, rfl, s2, d2⟩
    obtain ⟨ad, v0, v1, v2, v3, v4, v5, ms, f1, f2, f3, f4, f5, rfl, hq, r0, nl, nb, r1, r2, r3, r4, r5, b1, b2, b3, b4, b5⟩ := d2
    have V5 : Five K H2 350 [v0, v1, v2, v3, v4] [nums ms, rowsD h f1, rowsD h f2, rowsD w f3, rowsD w f4] := five_mk hh hw r0 nl nb r1 r2 r3 r4 b1 b2 b3 b4
    obtain ⟨a1, us1, rfl, q1, l1, _⟩ := dT_sq r1
    obtain ⟨a3, us3, rfl, q3, l3, _⟩ := dT_sq r3
    obtain ⟨a5, us5, rfl, q5, l5, row5⟩ := dT_sq r5
    refine tSeq_cut (fun σ' H' => σ' = [some (.ref a), some (.ref ad), o, some (.int (h : Int)), none, none, none, none, none, none] ∧ H2 = H') ?_ fun key => ?_
    rotate_left
    · refine ⟨_, rfl, ad, _, _, _, rfl, rfl, hq, rfl, a1, _, rfl, .inl q1, ?_⟩
      rw [l1]
      exact key _ _ ⟨rfl, rfl⟩
    rintro _ _ ⟨rfl, rfl⟩
    refine tSeq_cut (fun σ' H' => σ' = [some (.ref a), some (.ref ad), o, some (.int (h : Int)), some (.int (w : Int)), none, none, none, none, none] ∧ H2 = H') ?_ fun key => ?_
    rotate_left
    · refine ⟨_, rfl, ad, _, _, _, rfl, rfl, hq, rfl, a3, _, rfl, .inl q3, ?_⟩
      rw [l3]
      exact key _ _ ⟨rfl, rfl⟩
    rintro _ _ ⟨rfl, rfl⟩
    refine tSeq_cut (fun σ' H' => ∃ (D : Addr) (as : List Addr), σ' = [some (.ref a), some (.ref ad), o, some (.int (h : Int)), some (.int (w : Int)), some (.ref D), none, none, none, none] ∧ as.length = h ∧ Rows H2 H' D as w f5) ?_ fun key => ?_
    rotate_left
    · refine ⟨_, rfl, ad, _, _, .ref a5, rfl, rfl, hq, rfl, a5, rfl, ⟨_, q5⟩, fun D hD => ?_⟩
      refine comp_list0 (K := K) (a := a5) (xs := us5) (fun i ys τ H3 => ∃ as : List Addr, as.length = i ∧ ys = as.map V.ref ∧ Rows H2 H3 D as w f5 ∧ ∃ o, τ = [o])
        ⟨[], rfl, rfl, Rows.nil hD, none, rfl⟩ (fun i ys τ H3 _ ⟨as, _, _, R, _⟩ => R.same.seq q5) ?_ ?_
      · rintro i x ys τ H3 hx ⟨as, hal, rfl, R, o, rfl⟩
        obtain ⟨hi, b, rfl, hb⟩ := row5 i _ hx
        refine ⟨_, rfl, b, _, rfl, .inl (R.same.seq hb), fun L hL => ?_⟩
        have sL : Same H3 (upd H3 L (.lst (VI w (f5 i)))) := Same.new hL
        exact ⟨sL _ _ R.at, small (by rw [List.length_map]; omega), as ++ [L], by simp [hal], by rw [List.map_append]; rfl, R.push hL sL (by rw [hal]; exact upd_same), _, rfl⟩
      · rintro ys τ H3 ⟨as, hal, rfl, R, _⟩
        exact key _ _ ⟨D, as, rfl, by omega, R⟩
    rintro _ H3 ⟨D, as, rfl, hal, RT⟩
    have s3 : Same H2 H3 := RT.same
    have rD3 : Rep K H3 (.ref D) (dT h w f5) := RT.rep hal
    refine tSeq_cut (fun σ' H' => ∃ (vp : V) (p : PP), σ' = [some (.ref a), some (.ref ad), o, some (.int (h : Int)), some (.int (w : Int)), some (.ref D), some vp, none, none, none] ∧ Same H3 H' ∧ RepP K H' vp p ∧ okP 352 p) ?_ fun key => ?_
    rotate_left
    · refine ⟨_, rfl, _, rfl, _, rfl, ad, _, rfl, s3.seq hq, fun C hC => ?_⟩
      rw [show cutV [v0, .ref a1, v2, .ref a3, v4, .ref a5] none (some 5) = [v0, .ref a1, v2, .ref a3, v4] from rfl]
      have sG1 : Same H3 (upd H3 C (.lst [v0, .ref a1, v2, .ref a3, v4])) := Same.new hC
      have eG1 : upd H3 C (.lst [v0, .ref a1, v2, .ref a3, v4]) C = some (.lst [v0, .ref a1, v2, .ref a3, v4]) := upd_same
      generalize upd H3 C (.lst [v0, .ref a1, v2, .ref a3, v4]) = G1 at sG1 eG1
      exact ⟨a, C, ns, _, _, 350, rfl, (s2.trans (s3.trans sG1)).seq hS, hl, .of eG1, V5.same (s3.trans sG1), by decide, by decide, fun vp p H' s r o => key _ _ ⟨vp, p, rfl, sG1.trans s, r, o⟩⟩
    rintro _ H4 ⟨vp, p, rfl, s4, rp, op⟩
    have rD : Rep K H4 (.ref D) (dT h w f5) := Rep.same s4 rD3
    have b52 : ∀ i j, (f5 i j).natAbs < 2 ^ 352 := fun i j => bd_mono (b5 i j) (by decide)
    refine tSeq_cut (fun σ' H' => σ' = [some (.ref a), some (.ref ad), o, some (.int (h : Int)), some (.int (w : Int)), some (.ref D), some vp, some (.bl (lookP h w f5 p)), none, none] ∧ Same H4 H') ?_ fun key => ?_
    rotate_left
    · exact ⟨_, rfl, _, rfl, _, rfl, _, rfl, .ref D, vp, h, w, 352, f5, p, rfl, Rep.same (Same.refl H4) rD, hh, hw, b52, by decide, RepP.same (Same.refl H4) rp, op, fun G sG => key _ _ ⟨rfl, sG⟩⟩
    rintro _ H5 ⟨rfl, s5⟩
    refine tSeq_cut (fun σ' H' => ∃ o8 o9 : Option V, σ' = [some (.ref a), some (.ref ad), o, some (.int (h : Int)), some (.int (w : Int)), some (.ref D), some vp, some (.bl (lookP h w f5 p)), o8, o9] ∧ Same H4 H') ?_ fun key => ?_
    rotate_left
    · refine ⟨2, rfl, by decide, by decide, ?_⟩
      refine for_range (lo := 0) (n := 2) (fun i σ H6 => ∃ o8 o9 : Option V, σ = [some (.ref a), some (.ref ad), o, some (.int (h : Int)), some (.int (w : Int)), some (.ref D), some vp, some (.bl (lookP h w f5 p)), o8, o9] ∧ Same H4 H6) ⟨none, none, rfl, s5⟩ ?_ ?_
      · rintro i σ H6 _ ⟨o8, o9, rfl, s6⟩
        refine ⟨_, rfl, _, rfl, _, rfl, .ref D, vp, h, w, 352, f5, p, rfl, Rep.same s6 rD, by omega, by omega, b52, by decide, RepP.same s6 rp, op, fun G sG => ?_⟩
        refine ⟨_, rfl, _, _, .bl (lookP h w f5 p), rfl, .inr (.inl rfl), rfl, _, rfl, ?_⟩
        refine ifN (by simp [isD]) ?_
        refine ⟨_, rfl, _, rfl, rfl, _, rfl, ?_⟩
        refine ifN (by simp) ?_
        exact ⟨_, _, rfl, s6.trans sG⟩
      · rintro σ H6 ⟨o8, o9, rfl, s6⟩
        exact key _ _ ⟨o8, o9, rfl, s6⟩
    rintro _ H6 ⟨o8, o9, rfl, s6⟩
    have s26 : Same H2 H6 := s3.trans (s4.trans s6)
    refine ⟨_, rfl, _, rfl, ad, _, _, .ref a5, rfl, rfl, s26.seq hq, rfl, dT h w f5, dT h w f5, Rep.same s6 rD, Rep.same s26 r5, dep_dT h w _, ?_⟩
    rw [eq_dT (fun _ _ _ _ => rfl)]
    refine ⟨_, rfl, ?_⟩
    refine ifP rfl ?_
    refine ⟨_, rfl, _, rfl, _, rfl, _, rfl, .ref D, vp, h, w, 352, f5, p, rfl, Rep.same s6 rD, hh, hw, b52, by decide, RepP.same s6 rp, op, fun G sG => ⟨_, rfl, rfl, ?_⟩⟩
    rw [decide_eq_true rfl]
    exact k _
end
end Hb
namespace Hb
open PySem L2
theorem elim1 {α : Type} {P : List α → Prop} (h : ∀ a0, P [a0]) (us : List α) (hl : us.length = 1) : P us := by
  cases us with
  | nil => exact nomatch hl
  | cons a0 u0 =>
    cases u0 with
    | nil => exact h a0
    | cons _ _ => simp at hl
theorem elim2 {α : Type} {P : List α → Prop} (h : ∀ a0 a1, P [a0, a1]) (us : List α) (hl : us.length = 2) : P us := by
  cases us with
  | nil => exact nomatch hl
  | cons a0 u0 =>
    cases u0 with
    | nil => exact nomatch hl
    | cons a1 u1 =>
      cases u1 with
      | nil => exact h a0 a1
      | cons _ _ => simp at hl
theorem elim3 {α : Type} {P : List α → Prop} (h : ∀ a0 a1 a2, P [a0, a1, a2]) (us : List α) (hl : us.length = 3) : P us := by
  cases us with
  | nil => exact nomatch hl
  | cons a0 u0 =>
    cases u0 with
    | nil => exact nomatch hl
    | cons a1 u1 =>
      cases u1 with
      | nil => exact nomatch hl
      | cons a2 u2 =>
        cases u2 with
        | nil => exact h a0 a1 a2
        | cons _ _ => simp at hl
theorem elim4 {α : Type} {P : List α → Prop} (h : ∀ a0 a1 a2 a3, P [a0, a1, a2, a3]) (us : List α) (hl : us.length = 4) : P us := by
  cases us with
  | nil => exact nomatch hl
  | cons a0 u0 =>
    cases u0 with
    | nil => exact nomatch hl
    | cons a1 u1 =>
      cases u1 with
      | nil => exact nomatch hl
      | cons a2 u2 =>
        cases u2 with
        | nil => exact nomatch hl
        | cons a3 u3 =>
          cases u3 with
          | nil => exact h a0 a1 a2 a3
          | cons _ _ => simp at hl
set_option maxHeartbeats 4000000 in
theorem all_mk {l : PySem.W.OpenLaw} {w : World} {K : PySem.W.Frag} {h : Heap} {mg : Str → Option Value} {fa : Addr} {f_is_whole : Addr} {od_is_whole an_is_whole : Option Addr} {sl_is_whole : Array (Option Value)} {oc_is_whole kV_is_whole dc_is_whole pm_is_whole cd_is_whole ct_is_whole : Value}
    {f_one_row : Addr} {od_one_row an_one_row : Option Addr} {sl_one_row : Array (Option Value)} {oc_one_row kV_one_row dc_one_row pm_one_row cd_one_row ct_one_row : Value}
    {f_mixed : Addr} {od_mixed an_mixed : Option Addr} {sl_mixed : Array (Option Value)} {oc_mixed kV_mixed dc_mixed pm_mixed cd_mixed ct_mixed : Value}
    {f_number_at : Addr} {od_number_at an_number_at : Option Addr} {sl_number_at : Array (Option Value)} {oc_number_at kV_number_at dc_number_at pm_number_at cd_number_at ct_number_at : Value}
    {f_is_multiple : Addr} {od_is_multiple an_is_multiple : Option Addr} {sl_is_multiple : Array (Option Value)} {oc_is_multiple kV_is_multiple dc_is_multiple pm_is_multiple cd_is_multiple ct_is_multiple : Value}
    {f_L_whole : Addr} {od_L_whole an_L_whole : Option Addr} {sl_L_whole : Array (Option Value)} {oc_L_whole kV_L_whole dc_L_whole pm_L_whole cd_L_whole ct_L_whole : Value}
    {f_L_cell_at : Addr} {od_L_cell_at an_L_cell_at : Option Addr} {sl_L_cell_at : Array (Option Value)} {oc_L_cell_at kV_L_cell_at dc_L_cell_at pm_L_cell_at cd_L_cell_at ct_L_cell_at : Value}
    {f_L_product : Addr} {od_L_product an_L_product : Option Addr} {sl_L_product : Array (Option Value)} {oc_L_product kV_L_product dc_L_product pm_L_product cd_L_product ct_L_product : Value}
    {f_L_one : Addr} {od_L_one an_L_one : Option Addr} {sl_L_one : Array (Option Value)} {oc_L_one kV_L_one dc_L_one pm_L_one cd_L_one ct_L_one : Value}
    {f_L_added : Addr} {od_L_added an_L_added : Option Addr} {sl_L_added : Array (Option Value)} {oc_L_added kV_L_added dc_L_added pm_L_added cd_L_added ct_L_added : Value}
    {f_L_columns_added : Addr} {od_L_columns_added an_L_columns_added : Option Addr} {sl_L_columns_added : Array (Option Value)} {oc_L_columns_added kV_L_columns_added dc_L_columns_added pm_L_columns_added cd_L_columns_added ct_L_columns_added : Value}
    {f_L_other_number : Addr} {od_L_other_number an_L_other_number : Option Addr} {sl_L_other_number : Array (Option Value)} {oc_L_other_number kV_L_other_number dc_L_other_number pm_L_other_number cd_L_other_number ct_L_other_number : Value}
    {f_L_odd : Addr} {od_L_odd an_L_odd : Option Addr} {sl_L_odd : Array (Option Value)} {oc_L_odd kV_L_odd dc_L_odd pm_L_odd cd_L_odd ct_L_odd : Value}
    {f_is_list_of_wholes : Addr} {od_is_list_of_wholes an_is_list_of_wholes : Option Addr} {sl_is_list_of_wholes : Array (Option Value)} {oc_is_list_of_wholes kV_is_list_of_wholes dc_is_list_of_wholes pm_is_list_of_wholes cd_is_list_of_wholes ct_is_list_of_wholes : Value}
    {f_ones : Addr} {od_ones an_ones : Option Addr} {sl_ones : Array (Option Value)} {oc_ones kV_ones dc_ones pm_ones cd_ones ct_ones : Value}
    {f_list_times : Addr} {od_list_times an_list_times : Option Addr} {sl_list_times : Array (Option Value)} {oc_list_times kV_list_times dc_list_times pm_list_times cd_list_times ct_list_times : Value}
    {f_each_divides_the_next : Addr} {od_each_divides_the_next an_each_divides_the_next : Option Addr} {sl_each_divides_the_next : Array (Option Value)} {oc_each_divides_the_next kV_each_divides_the_next dc_each_divides_the_next pm_each_divides_the_next cd_each_divides_the_next ct_each_divides_the_next : Value}
    {f_straight_row : Addr} {od_straight_row an_straight_row : Option Addr} {sl_straight_row : Array (Option Value)} {oc_straight_row kV_straight_row dc_straight_row pm_straight_row cd_straight_row ct_straight_row : Value}
    {f_L_square_is : Addr} {od_L_square_is an_L_square_is : Option Addr} {sl_L_square_is : Array (Option Value)} {oc_L_square_is kV_L_square_is dc_L_square_is pm_L_square_is cd_L_square_is ct_L_square_is : Value}
    {f_L_drawn : Addr} {od_L_drawn an_L_drawn : Option Addr} {sl_L_drawn : Array (Option Value)} {oc_L_drawn kV_L_drawn dc_L_drawn pm_L_drawn cd_L_drawn ct_L_drawn : Value}
    {f_L_turned : Addr} {od_L_turned an_L_turned : Option Addr} {sl_L_turned : Array (Option Value)} {oc_L_turned kV_L_turned dc_L_turned pm_L_turned cd_L_turned ct_L_turned : Value}
    {f_L_spoilt : Addr} {od_L_spoilt an_L_spoilt : Option Addr} {sl_L_spoilt : Array (Option Value)} {oc_L_spoilt kV_L_spoilt dc_L_spoilt pm_L_spoilt cd_L_spoilt ct_L_spoilt : Value}
    {f_L_numbers_are : Addr} {od_L_numbers_are an_L_numbers_are : Option Addr} {sl_L_numbers_are : Array (Option Value)} {oc_L_numbers_are kV_L_numbers_are dc_L_numbers_are pm_L_numbers_are cd_L_numbers_are ct_L_numbers_are : Value}
    {f_L_backs : Addr} {od_L_backs an_L_backs : Option Addr} {sl_L_backs : Array (Option Value)} {oc_L_backs kV_L_backs dc_L_backs pm_L_backs cd_L_backs ct_L_backs : Value}
    {f_product : Addr} {od_product an_product : Option Addr} {sl_product : Array (Option Value)} {oc_product kV_product dc_product pm_product cd_product ct_product : Value}
    {f_are_numbers : Addr} {od_are_numbers an_are_numbers : Option Addr} {sl_are_numbers : Array (Option Value)} {oc_are_numbers kV_are_numbers dc_are_numbers pm_are_numbers cd_are_numbers ct_are_numbers : Value}
    {f_is_square : Addr} {od_is_square an_is_square : Option Addr} {sl_is_square : Array (Option Value)} {oc_is_square kV_is_square dc_is_square pm_is_square cd_is_square ct_is_square : Value}
    {f_L_due_of : Addr} {od_L_due_of an_L_due_of : Option Addr} {sl_L_due_of : Array (Option Value)} {oc_L_due_of kV_L_due_of dc_L_due_of pm_L_due_of cd_L_due_of ct_L_due_of : Value}
    {f_are_turns : Addr} {od_are_turns an_are_turns : Option Addr} {sl_are_turns : Array (Option Value)} {oc_are_turns kV_are_turns dc_are_turns pm_are_turns cd_are_turns ct_are_turns : Value}
    {f_diagonal_holds : Addr} {od_diagonal_holds an_diagonal_holds : Option Addr} {sl_diagonal_holds : Array (Option Value)} {oc_diagonal_holds kV_diagonal_holds dc_diagonal_holds pm_diagonal_holds cd_diagonal_holds ct_diagonal_holds : Value}
    {f_law : Addr} {od_law an_law : Option Addr} {sl_law : Array (Option Value)} {oc_law kV_law dc_law pm_law cd_law ct_law : Value}
    (X : K.In h) (G : h.Ns mainGlobals mg) (hfa : mg "law" = some (.ref fa))
    (a_is_whole : PySem.W.nsIn K mainGlobals "is_whole" = some (some (.ref f_is_whole)))
    (l_is_whole : K.lookup f_is_whole = some ⟨oc_is_whole, od_is_whole, .func (PySem.W.fnOf "is_whole" "is_whole" (defArgs s_is_whole) (defBody s_is_whole) (defScope s_is_whole) .none kV_is_whole dc_is_whole pm_is_whole an_is_whole cd_is_whole ct_is_whole), sl_is_whole⟩)
    (c_is_whole : PySem.W.codeIn K cd_is_whole "is_whole" = true)
    (k_is_whole : PySem.W.keepIn K (.ref f_is_whole) = true)
    (a_one_row : PySem.W.nsIn K mainGlobals "one_row" = some (some (.ref f_one_row)))
    (l_one_row : K.lookup f_one_row = some ⟨oc_one_row, od_one_row, .func (PySem.W.fnOf "one_row" "one_row" (defArgs s_one_row) (defBody s_one_row) (defScope s_one_row) .none kV_one_row dc_one_row pm_one_row an_one_row cd_one_row ct_one_row), sl_one_row⟩)
    (c_one_row : PySem.W.codeIn K cd_one_row "one_row" = true)
    (k_one_row : PySem.W.keepIn K (.ref f_one_row) = true)
    (a_mixed : PySem.W.nsIn K mainGlobals "mixed" = some (some (.ref f_mixed)))
    (l_mixed : K.lookup f_mixed = some ⟨oc_mixed, od_mixed, .func (PySem.W.fnOf "mixed" "mixed" (defArgs s_mixed) (defBody s_mixed) (defScope s_mixed) .none kV_mixed dc_mixed pm_mixed an_mixed cd_mixed ct_mixed), sl_mixed⟩)
    (c_mixed : PySem.W.codeIn K cd_mixed "mixed" = true)
    (k_mixed : PySem.W.keepIn K (.ref f_mixed) = true)
    (a_number_at : PySem.W.nsIn K mainGlobals "number_at" = some (some (.ref f_number_at)))
    (l_number_at : K.lookup f_number_at = some ⟨oc_number_at, od_number_at, .func (PySem.W.fnOf "number_at" "number_at" (defArgs s_number_at) (defBody s_number_at) (defScope s_number_at) .none kV_number_at dc_number_at pm_number_at an_number_at cd_number_at ct_number_at), sl_number_at⟩)
    (c_number_at : PySem.W.codeIn K cd_number_at "number_at" = true)
    (k_number_at : PySem.W.keepIn K (.ref f_number_at) = true)
    (a_is_multiple : PySem.W.nsIn K mainGlobals "is_multiple" = some (some (.ref f_is_multiple)))
    (l_is_multiple : K.lookup f_is_multiple = some ⟨oc_is_multiple, od_is_multiple, .func (PySem.W.fnOf "is_multiple" "is_multiple" (defArgs s_is_multiple) (defBody s_is_multiple) (defScope s_is_multiple) .none kV_is_multiple dc_is_multiple pm_is_multiple an_is_multiple cd_is_multiple ct_is_multiple), sl_is_multiple⟩)
    (c_is_multiple : PySem.W.codeIn K cd_is_multiple "is_multiple" = true)
    (k_is_multiple : PySem.W.keepIn K (.ref f_is_multiple) = true)
    (a_L_whole : PySem.W.nsIn K mainGlobals "_law_whole" = some (some (.ref f_L_whole)))
    (l_L_whole : K.lookup f_L_whole = some ⟨oc_L_whole, od_L_whole, .func (PySem.W.fnOf "_law_whole" "_law_whole" (defArgs s_L_whole) (defBody s_L_whole) (defScope s_L_whole) .none kV_L_whole dc_L_whole pm_L_whole an_L_whole cd_L_whole ct_L_whole), sl_L_whole⟩)
    (c_L_whole : PySem.W.codeIn K cd_L_whole "_law_whole" = true)
    (k_L_whole : PySem.W.keepIn K (.ref f_L_whole) = true)
    (a_L_cell_at : PySem.W.nsIn K mainGlobals "_law_cell_at" = some (some (.ref f_L_cell_at)))
    (l_L_cell_at : K.lookup f_L_cell_at = some ⟨oc_L_cell_at, od_L_cell_at, .func (PySem.W.fnOf "_law_cell_at" "_law_cell_at" (defArgs s_L_cell_at) (defBody s_L_cell_at) (defScope s_L_cell_at) .none kV_L_cell_at dc_L_cell_at pm_L_cell_at an_L_cell_at cd_L_cell_at ct_L_cell_at), sl_L_cell_at⟩)
    (c_L_cell_at : PySem.W.codeIn K cd_L_cell_at "_law_cell_at" = true)
    (k_L_cell_at : PySem.W.keepIn K (.ref f_L_cell_at) = true)
    (a_L_product : PySem.W.nsIn K mainGlobals "_law_product" = some (some (.ref f_L_product)))
    (l_L_product : K.lookup f_L_product = some ⟨oc_L_product, od_L_product, .func (PySem.W.fnOf "_law_product" "_law_product" (defArgs s_L_product) (defBody s_L_product) (defScope s_L_product) .none kV_L_product dc_L_product pm_L_product an_L_product cd_L_product ct_L_product), sl_L_product⟩)
    (c_L_product : PySem.W.codeIn K cd_L_product "_law_product" = true)
    (k_L_product : PySem.W.keepIn K (.ref f_L_product) = true)
    (a_L_one : PySem.W.nsIn K mainGlobals "_law_one" = some (some (.ref f_L_one)))
    (l_L_one : K.lookup f_L_one = some ⟨oc_L_one, od_L_one, .func (PySem.W.fnOf "_law_one" "_law_one" (defArgs s_L_one) (defBody s_L_one) (defScope s_L_one) .none kV_L_one dc_L_one pm_L_one an_L_one cd_L_one ct_L_one), sl_L_one⟩)
    (c_L_one : PySem.W.codeIn K cd_L_one "_law_one" = true)
    (k_L_one : PySem.W.keepIn K (.ref f_L_one) = true)
    (a_L_added : PySem.W.nsIn K mainGlobals "_law_added" = some (some (.ref f_L_added)))
    (l_L_added : K.lookup f_L_added = some ⟨oc_L_added, od_L_added, .func (PySem.W.fnOf "_law_added" "_law_added" (defArgs s_L_added) (defBody s_L_added) (defScope s_L_added) .none kV_L_added dc_L_added pm_L_added an_L_added cd_L_added ct_L_added), sl_L_added⟩)
    (c_L_added : PySem.W.codeIn K cd_L_added "_law_added" = true)
    (k_L_added : PySem.W.keepIn K (.ref f_L_added) = true)
    (a_L_columns_added : PySem.W.nsIn K mainGlobals "_law_columns_added" = some (some (.ref f_L_columns_added)))
    (l_L_columns_added : K.lookup f_L_columns_added = some ⟨oc_L_columns_added, od_L_columns_added, .func (PySem.W.fnOf "_law_columns_added" "_law_columns_added" (defArgs s_L_columns_added) (defBody s_L_columns_added) (defScope s_L_columns_added) .none kV_L_columns_added dc_L_columns_added pm_L_columns_added an_L_columns_added cd_L_columns_added ct_L_columns_added), sl_L_columns_added⟩)
    (c_L_columns_added : PySem.W.codeIn K cd_L_columns_added "_law_columns_added" = true)
    (k_L_columns_added : PySem.W.keepIn K (.ref f_L_columns_added) = true)
    (a_L_other_number : PySem.W.nsIn K mainGlobals "_law_other_number" = some (some (.ref f_L_other_number)))
    (l_L_other_number : K.lookup f_L_other_number = some ⟨oc_L_other_number, od_L_other_number, .func (PySem.W.fnOf "_law_other_number" "_law_other_number" (defArgs s_L_other_number) (defBody s_L_other_number) (defScope s_L_other_number) .none kV_L_other_number dc_L_other_number pm_L_other_number an_L_other_number cd_L_other_number ct_L_other_number), sl_L_other_number⟩)
    (c_L_other_number : PySem.W.codeIn K cd_L_other_number "_law_other_number" = true)
    (k_L_other_number : PySem.W.keepIn K (.ref f_L_other_number) = true)
    (a_L_odd : PySem.W.nsIn K mainGlobals "_law_odd" = some (some (.ref f_L_odd)))
    (l_L_odd : K.lookup f_L_odd = some ⟨oc_L_odd, od_L_odd, .func (PySem.W.fnOf "_law_odd" "_law_odd" (defArgs s_L_odd) (defBody s_L_odd) (defScope s_L_odd) .none kV_L_odd dc_L_odd pm_L_odd an_L_odd cd_L_odd ct_L_odd), sl_L_odd⟩)
    (c_L_odd : PySem.W.codeIn K cd_L_odd "_law_odd" = true)
    (k_L_odd : PySem.W.keepIn K (.ref f_L_odd) = true)
    (a_is_list_of_wholes : PySem.W.nsIn K mainGlobals "is_list_of_wholes" = some (some (.ref f_is_list_of_wholes)))
    (l_is_list_of_wholes : K.lookup f_is_list_of_wholes = some ⟨oc_is_list_of_wholes, od_is_list_of_wholes, .func (PySem.W.fnOf "is_list_of_wholes" "is_list_of_wholes" (defArgs s_is_list_of_wholes) (defBody s_is_list_of_wholes) (defScope s_is_list_of_wholes) .none kV_is_list_of_wholes dc_is_list_of_wholes pm_is_list_of_wholes an_is_list_of_wholes cd_is_list_of_wholes ct_is_list_of_wholes), sl_is_list_of_wholes⟩)
    (c_is_list_of_wholes : PySem.W.codeIn K cd_is_list_of_wholes "is_list_of_wholes" = true)
    (k_is_list_of_wholes : PySem.W.keepIn K (.ref f_is_list_of_wholes) = true)
    (a_ones : PySem.W.nsIn K mainGlobals "ones" = some (some (.ref f_ones)))
    (l_ones : K.lookup f_ones = some ⟨oc_ones, od_ones, .func (PySem.W.fnOf "ones" "ones" (defArgs s_ones) (defBody s_ones) (defScope s_ones) .none kV_ones dc_ones pm_ones an_ones cd_ones ct_ones), sl_ones⟩)
    (c_ones : PySem.W.codeIn K cd_ones "ones" = true)
    (k_ones : PySem.W.keepIn K (.ref f_ones) = true)
    (a_list_times : PySem.W.nsIn K mainGlobals "list_times" = some (some (.ref f_list_times)))
    (l_list_times : K.lookup f_list_times = some ⟨oc_list_times, od_list_times, .func (PySem.W.fnOf "list_times" "list_times" (defArgs s_list_times) (defBody s_list_times) (defScope s_list_times) .none kV_list_times dc_list_times pm_list_times an_list_times cd_list_times ct_list_times), sl_list_times⟩)
    (c_list_times : PySem.W.codeIn K cd_list_times "list_times" = true)
    (k_list_times : PySem.W.keepIn K (.ref f_list_times) = true)
    (a_each_divides_the_next : PySem.W.nsIn K mainGlobals "each_divides_the_next" = some (some (.ref f_each_divides_the_next)))
    (l_each_divides_the_next : K.lookup f_each_divides_the_next = some ⟨oc_each_divides_the_next, od_each_divides_the_next, .func (PySem.W.fnOf "each_divides_the_next" "each_divides_the_next" (defArgs s_each_divides_the_next) (defBody s_each_divides_the_next) (defScope s_each_divides_the_next) .none kV_each_divides_the_next dc_each_divides_the_next pm_each_divides_the_next an_each_divides_the_next cd_each_divides_the_next ct_each_divides_the_next), sl_each_divides_the_next⟩)
    (c_each_divides_the_next : PySem.W.codeIn K cd_each_divides_the_next "each_divides_the_next" = true)
    (k_each_divides_the_next : PySem.W.keepIn K (.ref f_each_divides_the_next) = true)
    (a_straight_row : PySem.W.nsIn K mainGlobals "straight_row" = some (some (.ref f_straight_row)))
    (l_straight_row : K.lookup f_straight_row = some ⟨oc_straight_row, od_straight_row, .func (PySem.W.fnOf "straight_row" "straight_row" (defArgs s_straight_row) (defBody s_straight_row) (defScope s_straight_row) .none kV_straight_row dc_straight_row pm_straight_row an_straight_row cd_straight_row ct_straight_row), sl_straight_row⟩)
    (c_straight_row : PySem.W.codeIn K cd_straight_row "straight_row" = true)
    (k_straight_row : PySem.W.keepIn K (.ref f_straight_row) = true)
    (a_L_square_is : PySem.W.nsIn K mainGlobals "_law_square_is" = some (some (.ref f_L_square_is)))
    (l_L_square_is : K.lookup f_L_square_is = some ⟨oc_L_square_is, od_L_square_is, .func (PySem.W.fnOf "_law_square_is" "_law_square_is" (defArgs s_L_square_is) (defBody s_L_square_is) (defScope s_L_square_is) .none kV_L_square_is dc_L_square_is pm_L_square_is an_L_square_is cd_L_square_is ct_L_square_is), sl_L_square_is⟩)
    (c_L_square_is : PySem.W.codeIn K cd_L_square_is "_law_square_is" = true)
    (k_L_square_is : PySem.W.keepIn K (.ref f_L_square_is) = true)
    (a_L_drawn : PySem.W.nsIn K mainGlobals "_law_drawn" = some (some (.ref f_L_drawn)))
    (l_L_drawn : K.lookup f_L_drawn = some ⟨oc_L_drawn, od_L_drawn, .func (PySem.W.fnOf "_law_drawn" "_law_drawn" (defArgs s_L_drawn) (defBody s_L_drawn) (defScope s_L_drawn) .none kV_L_drawn dc_L_drawn pm_L_drawn an_L_drawn cd_L_drawn ct_L_drawn), sl_L_drawn⟩)
    (c_L_drawn : PySem.W.codeIn K cd_L_drawn "_law_drawn" = true)
    (k_L_drawn : PySem.W.keepIn K (.ref f_L_drawn) = true)
    (a_L_turned : PySem.W.nsIn K mainGlobals "_law_turned" = some (some (.ref f_L_turned)))
    (l_L_turned : K.lookup f_L_turned = some ⟨oc_L_turned, od_L_turned, .func (PySem.W.fnOf "_law_turned" "_law_turned" (defArgs s_L_turned) (defBody s_L_turned) (defScope s_L_turned) .none kV_L_turned dc_L_turned pm_L_turned an_L_turned cd_L_turned ct_L_turned), sl_L_turned⟩)
    (c_L_turned : PySem.W.codeIn K cd_L_turned "_law_turned" = true)
    (k_L_turned : PySem.W.keepIn K (.ref f_L_turned) = true)
    (a_L_spoilt : PySem.W.nsIn K mainGlobals "_law_spoilt" = some (some (.ref f_L_spoilt)))
    (l_L_spoilt : K.lookup f_L_spoilt = some ⟨oc_L_spoilt, od_L_spoilt, .func (PySem.W.fnOf "_law_spoilt" "_law_spoilt" (defArgs s_L_spoilt) (defBody s_L_spoilt) (defScope s_L_spoilt) .none kV_L_spoilt dc_L_spoilt pm_L_spoilt an_L_spoilt cd_L_spoilt ct_L_spoilt), sl_L_spoilt⟩)
    (c_L_spoilt : PySem.W.codeIn K cd_L_spoilt "_law_spoilt" = true)
    (k_L_spoilt : PySem.W.keepIn K (.ref f_L_spoilt) = true)
    (a_L_numbers_are : PySem.W.nsIn K mainGlobals "_law_numbers_are" = some (some (.ref f_L_numbers_are)))
    (l_L_numbers_are : K.lookup f_L_numbers_are = some ⟨oc_L_numbers_are, od_L_numbers_are, .func (PySem.W.fnOf "_law_numbers_are" "_law_numbers_are" (defArgs s_L_numbers_are) (defBody s_L_numbers_are) (defScope s_L_numbers_are) .none kV_L_numbers_are dc_L_numbers_are pm_L_numbers_are an_L_numbers_are cd_L_numbers_are ct_L_numbers_are), sl_L_numbers_are⟩)
    (c_L_numbers_are : PySem.W.codeIn K cd_L_numbers_are "_law_numbers_are" = true)
    (k_L_numbers_are : PySem.W.keepIn K (.ref f_L_numbers_are) = true)
    (a_L_backs : PySem.W.nsIn K mainGlobals "_law_backs" = some (some (.ref f_L_backs)))
    (l_L_backs : K.lookup f_L_backs = some ⟨oc_L_backs, od_L_backs, .func (PySem.W.fnOf "_law_backs" "_law_backs" (defArgs s_L_backs) (defBody s_L_backs) (defScope s_L_backs) .none kV_L_backs dc_L_backs pm_L_backs an_L_backs cd_L_backs ct_L_backs), sl_L_backs⟩)
    (c_L_backs : PySem.W.codeIn K cd_L_backs "_law_backs" = true)
    (k_L_backs : PySem.W.keepIn K (.ref f_L_backs) = true)
    (a_product : PySem.W.nsIn K mainGlobals "product" = some (some (.ref f_product)))
    (l_product : K.lookup f_product = some ⟨oc_product, od_product, .func (PySem.W.fnOf "product" "product" (defArgs s_product) (defBody s_product) (defScope s_product) .none kV_product dc_product pm_product an_product cd_product ct_product), sl_product⟩)
    (c_product : PySem.W.codeIn K cd_product "product" = true)
    (k_product : PySem.W.keepIn K (.ref f_product) = true)
    (a_are_numbers : PySem.W.nsIn K mainGlobals "are_numbers" = some (some (.ref f_are_numbers)))
    (l_are_numbers : K.lookup f_are_numbers = some ⟨oc_are_numbers, od_are_numbers, .func (PySem.W.fnOf "are_numbers" "are_numbers" (defArgs s_are_numbers) (defBody s_are_numbers) (defScope s_are_numbers) .none kV_are_numbers dc_are_numbers pm_are_numbers an_are_numbers cd_are_numbers ct_are_numbers), sl_are_numbers⟩)
    (c_are_numbers : PySem.W.codeIn K cd_are_numbers "are_numbers" = true)
    (k_are_numbers : PySem.W.keepIn K (.ref f_are_numbers) = true)
    (a_is_square : PySem.W.nsIn K mainGlobals "is_square" = some (some (.ref f_is_square)))
    (l_is_square : K.lookup f_is_square = some ⟨oc_is_square, od_is_square, .func (PySem.W.fnOf "is_square" "is_square" (defArgs s_is_square) (defBody s_is_square) (defScope s_is_square) .none kV_is_square dc_is_square pm_is_square an_is_square cd_is_square ct_is_square), sl_is_square⟩)
    (c_is_square : PySem.W.codeIn K cd_is_square "is_square" = true)
    (k_is_square : PySem.W.keepIn K (.ref f_is_square) = true)
    (a_L_due_of : PySem.W.nsIn K mainGlobals "_law_due_of" = some (some (.ref f_L_due_of)))
    (l_L_due_of : K.lookup f_L_due_of = some ⟨oc_L_due_of, od_L_due_of, .func (PySem.W.fnOf "_law_due_of" "_law_due_of" (defArgs s_L_due_of) (defBody s_L_due_of) (defScope s_L_due_of) .none kV_L_due_of dc_L_due_of pm_L_due_of an_L_due_of cd_L_due_of ct_L_due_of), sl_L_due_of⟩)
    (c_L_due_of : PySem.W.codeIn K cd_L_due_of "_law_due_of" = true)
    (k_L_due_of : PySem.W.keepIn K (.ref f_L_due_of) = true)
    (a_are_turns : PySem.W.nsIn K mainGlobals "are_turns" = some (some (.ref f_are_turns)))
    (l_are_turns : K.lookup f_are_turns = some ⟨oc_are_turns, od_are_turns, .func (PySem.W.fnOf "are_turns" "are_turns" (defArgs s_are_turns) (defBody s_are_turns) (defScope s_are_turns) .none kV_are_turns dc_are_turns pm_are_turns an_are_turns cd_are_turns ct_are_turns), sl_are_turns⟩)
    (c_are_turns : PySem.W.codeIn K cd_are_turns "are_turns" = true)
    (k_are_turns : PySem.W.keepIn K (.ref f_are_turns) = true)
    (a_diagonal_holds : PySem.W.nsIn K mainGlobals "diagonal_holds" = some (some (.ref f_diagonal_holds)))
    (l_diagonal_holds : K.lookup f_diagonal_holds = some ⟨oc_diagonal_holds, od_diagonal_holds, .func (PySem.W.fnOf "diagonal_holds" "diagonal_holds" (defArgs s_diagonal_holds) (defBody s_diagonal_holds) (defScope s_diagonal_holds) .none kV_diagonal_holds dc_diagonal_holds pm_diagonal_holds an_diagonal_holds cd_diagonal_holds ct_diagonal_holds), sl_diagonal_holds⟩)
    (c_diagonal_holds : PySem.W.codeIn K cd_diagonal_holds "diagonal_holds" = true)
    (k_diagonal_holds : PySem.W.keepIn K (.ref f_diagonal_holds) = true)
    (a_law : PySem.W.nsIn K mainGlobals "law" = some (some (.ref f_law)))
    (l_law : K.lookup f_law = some ⟨oc_law, od_law, .func (PySem.W.fnOf "law" "law" (defArgs s_law) (defBody s_law) (defScope s_law) .none kV_law dc_law pm_law an_law cd_law ct_law), sl_law⟩)
    (c_law : PySem.W.codeIn K cd_law "law" = true)
    (k_law : PySem.W.keepIn K (.ref f_law) = true)
    (z_isinstance : PySem.W.nsIn K mainGlobals "isinstance" = some none)
    (z_int : PySem.W.nsIn K mainGlobals "int" = some none)
    (z_bool : PySem.W.nsIn K mainGlobals "bool" = some none)
    (z_list : PySem.W.nsIn K mainGlobals "list" = some none)
    (z_all : PySem.W.nsIn K mainGlobals "all" = some none)
    (z_len : PySem.W.nsIn K mainGlobals "len" = some none)
    (z_range : PySem.W.nsIn K mainGlobals "range" = some none)
    (z_zip : PySem.W.nsIn K mainGlobals "zip" = some none)
    (z_tuple : PySem.W.nsIn K mainGlobals "tuple" = some none)
    (z_min : PySem.W.nsIn K mainGlobals "min" = some none)
    (z_sum : PySem.W.nsIn K mainGlobals "sum" = some none)
    (z_max : PySem.W.nsIn K mainGlobals "max" = some none) :
    ∃ fd : FuncData, (∀ (s : Shared) (v : Value), BindsTo s fd ⟨[v], []⟩ [("_law_script", v)]) ∧ ∀ base : Heap, K.In base → base.Ns mainGlobals mg → FnOk l.prog w K mg base CX0 6 fa fd ["_law_script"] (sp_lawB K) := by
  have e := hfa.symm.trans (PySem.W.mg_of X G a_law)
  cases e
  have T : Txt K mg := ⟨PySem.W.mg_none_of X G z_isinstance, PySem.W.mg_none_of X G z_int, PySem.W.mg_none_of X G z_bool, PySem.W.mg_none_of X G z_list, PySem.W.mg_none_of X G z_all, PySem.W.mg_none_of X G z_len, PySem.W.mg_none_of X G z_range, PySem.W.mg_none_of X G z_zip, PySem.W.mg_none_of X G z_tuple, PySem.W.mg_none_of X G z_min, PySem.W.mg_none_of X G z_sum, PySem.W.mg_none_of X G z_max⟩
  have F_is_whole := fun_mk (st := s_is_whole) l_is_whole c_is_whole k_is_whole
  have F_one_row := fun_mk (st := s_one_row) l_one_row c_one_row k_one_row
  have F_mixed := fun_mk (st := s_mixed) l_mixed c_mixed k_mixed
  have F_number_at := fun_mk (st := s_number_at) l_number_at c_number_at k_number_at
  have F_is_multiple := fun_mk (st := s_is_multiple) l_is_multiple c_is_multiple k_is_multiple
  have F_L_whole := fun_mk (st := s_L_whole) l_L_whole c_L_whole k_L_whole
  have F_L_cell_at := fun_mk (st := s_L_cell_at) l_L_cell_at c_L_cell_at k_L_cell_at
  have F_L_product := fun_mk (st := s_L_product) l_L_product c_L_product k_L_product
  have F_L_one := fun_mk (st := s_L_one) l_L_one c_L_one k_L_one
  have F_L_added := fun_mk (st := s_L_added) l_L_added c_L_added k_L_added
  have F_L_columns_added := fun_mk (st := s_L_columns_added) l_L_columns_added c_L_columns_added k_L_columns_added
  have F_L_other_number := fun_mk (st := s_L_other_number) l_L_other_number c_L_other_number k_L_other_number
  have F_L_odd := fun_mk (st := s_L_odd) l_L_odd c_L_odd k_L_odd
  have F_is_list_of_wholes := fun_mk (st := s_is_list_of_wholes) l_is_list_of_wholes c_is_list_of_wholes k_is_list_of_wholes
  have F_ones := fun_mk (st := s_ones) l_ones c_ones k_ones
  have F_list_times := fun_mk (st := s_list_times) l_list_times c_list_times k_list_times
  have F_each_divides_the_next := fun_mk (st := s_each_divides_the_next) l_each_divides_the_next c_each_divides_the_next k_each_divides_the_next
  have F_straight_row := fun_mk (st := s_straight_row) l_straight_row c_straight_row k_straight_row
  have F_L_square_is := fun_mk (st := s_L_square_is) l_L_square_is c_L_square_is k_L_square_is
  have F_L_drawn := fun_mk (st := s_L_drawn) l_L_drawn c_L_drawn k_L_drawn
  have F_L_turned := fun_mk (st := s_L_turned) l_L_turned c_L_turned k_L_turned
  have F_L_spoilt := fun_mk (st := s_L_spoilt) l_L_spoilt c_L_spoilt k_L_spoilt
  have F_L_numbers_are := fun_mk (st := s_L_numbers_are) l_L_numbers_are c_L_numbers_are k_L_numbers_are
  have F_L_backs := fun_mk (st := s_L_backs) l_L_backs c_L_backs k_L_backs
  have F_product := fun_mk (st := s_product) l_product c_product k_product
  have F_are_numbers := fun_mk (st := s_are_numbers) l_are_numbers c_are_numbers k_are_numbers
  have F_is_square := fun_mk (st := s_is_square) l_is_square c_is_square k_is_square
  have F_L_due_of := fun_mk (st := s_L_due_of) l_L_due_of c_L_due_of k_L_due_of
  have F_are_turns := fun_mk (st := s_are_turns) l_are_turns c_are_turns k_are_turns
  have F_diagonal_holds := fun_mk (st := s_diagonal_holds) l_diagonal_holds c_diagonal_holds k_diagonal_holds
  have F_law := fun_mk (st := s_law) l_law c_law k_law
  refine ⟨PySem.W.fnOf "law" "law" (defArgs s_law) (defBody s_law) (defScope s_law) .none kV_law dc_law pm_law an_law cd_law ct_law, fun s v => .of_eq rfl, fun base _ _ => ?_⟩
  have h_is_whole : Has l.prog w K mg base "is_whole" ["thing"] 1 (sp_is_wholeE K) := ⟨_, _, PySem.W.mg_of X G a_is_whole, k_is_whole, F_is_whole.binds (ps := ["thing"]) (fun _ _ _ _ _ _ => elim1 (fun _ => rfl)), ok_is_whole F_is_whole T ⟩
  have h_one_row : Has l.prog w K mg base "one_row" ["size", "i"] 1 (sp_one_row K) := ⟨_, _, PySem.W.mg_of X G a_one_row, k_one_row, F_one_row.binds (ps := ["size", "i"]) (fun _ _ _ _ _ _ => elim2 (fun _ _ => rfl)), ok_one_row F_one_row T ⟩
  have h_mixed : Has l.prog w K mg base "mixed" ["a", "one", "b", "other"] 1 (sp_mixed K) := ⟨_, _, PySem.W.mg_of X G a_mixed, k_mixed, F_mixed.binds (ps := ["a", "one", "b", "other"]) (fun _ _ _ _ _ _ => elim4 (fun _ _ _ _ => rfl)), ok_mixed F_mixed T ⟩
  have h_number_at : Has l.prog w K mg base "number_at" ["numbers", "i"] 1 (sp_number_at K) := ⟨_, _, PySem.W.mg_of X G a_number_at, k_number_at, F_number_at.binds (ps := ["numbers", "i"]) (fun _ _ _ _ _ _ => elim2 (fun _ _ => rfl)), ok_number_at F_number_at T ⟩
  have h_is_multiple : Has l.prog w K mg base "is_multiple" ["value", "number"] 1 (sp_is_multiple K) := ⟨_, _, PySem.W.mg_of X G a_is_multiple, k_is_multiple, F_is_multiple.binds (ps := ["value", "number"]) (fun _ _ _ _ _ _ => elim2 (fun _ _ => rfl)), ok_is_multiple F_is_multiple T ⟩
  have h_L_whole : Has l.prog w K mg base "_law_whole" ["_law_found"] 1 (sp_is_wholeE K) := ⟨_, _, PySem.W.mg_of X G a_L_whole, k_L_whole, F_L_whole.binds (ps := ["_law_found"]) (fun _ _ _ _ _ _ => elim1 (fun _ => rfl)), ok_L_whole F_L_whole T ⟩
  have h_L_cell_at : Has l.prog w K mg base "_law_cell_at" ["_law_script", "_law_k"] 1 (sp_L_cell_at K) := ⟨_, _, PySem.W.mg_of X G a_L_cell_at, k_L_cell_at, F_L_cell_at.binds (ps := ["_law_script", "_law_k"]) (fun _ _ _ _ _ _ => elim2 (fun _ _ => rfl)), ok_L_cell_at F_L_cell_at T ⟩
  have h_L_product : Has l.prog w K mg base "_law_product" ["_law_one_here", "_law_other", "_law_width"] 1 (sp_L_product K) := ⟨_, _, PySem.W.mg_of X G a_L_product, k_L_product, F_L_product.binds (ps := ["_law_one_here", "_law_other", "_law_width"]) (fun _ _ _ _ _ _ => elim3 (fun _ _ _ => rfl)), ok_L_product F_L_product T ⟩
  have h_L_one : Has l.prog w K mg base "_law_one" ["_law_size"] 1 (sp_L_one K) := ⟨_, _, PySem.W.mg_of X G a_L_one, k_L_one, F_L_one.binds (ps := ["_law_size"]) (fun _ _ _ _ _ _ => elim1 (fun _ => rfl)), ok_L_one F_L_one T ⟩
  have h_L_added : Has l.prog w K mg base "_law_added" ["_law_table", "_law_i", "_law_j", "_law_number"] 1 (sp_L_added K) := ⟨_, _, PySem.W.mg_of X G a_L_added, k_L_added, F_L_added.binds (ps := ["_law_table", "_law_i", "_law_j", "_law_number"]) (fun _ _ _ _ _ _ => elim4 (fun _ _ _ _ => rfl)), ok_L_added F_L_added T ⟩
  have h_L_columns_added : Has l.prog w K mg base "_law_columns_added" ["_law_table", "_law_i", "_law_j", "_law_number"] 1 (sp_L_columns_added K) := ⟨_, _, PySem.W.mg_of X G a_L_columns_added, k_L_columns_added, F_L_columns_added.binds (ps := ["_law_table", "_law_i", "_law_j", "_law_number"]) (fun _ _ _ _ _ _ => elim4 (fun _ _ _ _ => rfl)), ok_L_columns_added F_L_columns_added T ⟩
  have h_L_other_number : Has l.prog w K mg base "_law_other_number" ["_law_number", "_law_cell"] 1 (sp_L_other_number K) := ⟨_, _, PySem.W.mg_of X G a_L_other_number, k_L_other_number, F_L_other_number.binds (ps := ["_law_number", "_law_cell"]) (fun _ _ _ _ _ _ => elim2 (fun _ _ => rfl)), ok_L_other_number F_L_other_number T ⟩
  have h_L_odd : Has l.prog w K mg base "_law_odd" ["_law_papers", "_law_which", "_law_at"] 1 (sp_L_odd66 K) := ⟨_, _, PySem.W.mg_of X G a_L_odd, k_L_odd, F_L_odd.binds (ps := ["_law_papers", "_law_which", "_law_at"]) (fun _ _ _ _ _ _ => elim3 (fun _ _ _ => rfl)), ok_L_odd F_L_odd T ⟩
  have h_is_list_of_wholes : Has l.prog w K mg base "is_list_of_wholes" ["thing", "many"] 2 (sp_list_of_wholesT K) := ⟨_, _, PySem.W.mg_of X G a_is_list_of_wholes, k_is_list_of_wholes, F_is_list_of_wholes.binds (ps := ["thing", "many"]) (fun _ _ _ _ _ _ => elim2 (fun _ _ => rfl)), ok_is_list_of_wholes F_is_list_of_wholes T h_is_whole⟩
  have h_ones : Has l.prog w K mg base "ones" ["size"] 2 (sp_ones K) := ⟨_, _, PySem.W.mg_of X G a_ones, k_ones, F_ones.binds (ps := ["size"]) (fun _ _ _ _ _ _ => elim1 (fun _ => rfl)), ok_ones F_ones T h_one_row⟩
  have h_list_times : Has l.prog w K mg base "list_times" ["numbers", "table", "width"] 2 (sp_list_times K) := ⟨_, _, PySem.W.mg_of X G a_list_times, k_list_times, F_list_times.binds (ps := ["numbers", "table", "width"]) (fun _ _ _ _ _ _ => elim3 (fun _ _ _ => rfl)), ok_list_times F_list_times T h_mixed⟩
  have h_each_divides_the_next : Has l.prog w K mg base "each_divides_the_next" ["numbers"] 2 (sp_each_divides K) := ⟨_, _, PySem.W.mg_of X G a_each_divides_the_next, k_each_divides_the_next, F_each_divides_the_next.binds (ps := ["numbers"]) (fun _ _ _ _ _ _ => elim1 (fun _ => rfl)), ok_each_divides_the_next F_each_divides_the_next T h_is_multiple⟩
  have h_straight_row : Has l.prog w K mg base "straight_row" ["numbers", "i", "width"] 2 (sp_straight_row K) := ⟨_, _, PySem.W.mg_of X G a_straight_row, k_straight_row, F_straight_row.binds (ps := ["numbers", "i", "width"]) (fun _ _ _ _ _ _ => elim3 (fun _ _ _ => rfl)), ok_straight_row F_straight_row T h_number_at⟩
  have h_L_square_is : Has l.prog w K mg base "_law_square_is" ["_law_thing", "_law_size"] 2 (sp_L_square_is K) := ⟨_, _, PySem.W.mg_of X G a_L_square_is, k_L_square_is, F_L_square_is.binds (ps := ["_law_thing", "_law_size"]) (fun _ _ _ _ _ _ => elim2 (fun _ _ => rfl)), ok_L_square_is F_L_square_is T h_L_whole⟩
  have h_L_drawn : Has l.prog w K mg base "_law_drawn" ["_law_script"] 2 (sp_L_drawn66 K) := ⟨_, _, PySem.W.mg_of X G a_L_drawn, k_L_drawn, F_L_drawn.binds (ps := ["_law_script"]) (fun _ _ _ _ _ _ => elim1 (fun _ => rfl)), ok_L_drawn F_L_drawn T h_L_cell_at h_L_one⟩
  have h_L_turned : Has l.prog w K mg base "_law_turned" ["_law_drawn_here", "_law_cell"] 2 (sp_L_turned66 K) := ⟨_, _, PySem.W.mg_of X G a_L_turned, k_L_turned, F_L_turned.binds (ps := ["_law_drawn_here", "_law_cell"]) (fun _ _ _ _ _ _ => elim2 (fun _ _ => rfl)), ok_L_turned F_L_turned T h_L_columns_added h_L_added⟩
  have h_L_spoilt : Has l.prog w K mg base "_law_spoilt" ["_law_script", "_law_papers"] 2 (sp_L_spoilt66 K) := ⟨_, _, PySem.W.mg_of X G a_L_spoilt, k_L_spoilt, F_L_spoilt.binds (ps := ["_law_script", "_law_papers"]) (fun _ _ _ _ _ _ => elim2 (fun _ _ => rfl)), ok_L_spoilt F_L_spoilt T h_L_cell_at h_L_odd h_L_other_number⟩
  have h_L_numbers_are : Has l.prog w K mg base "_law_numbers_are" ["_law_numbers", "_law_most"] 2 (sp_L_numbers_are K) := ⟨_, _, PySem.W.mg_of X G a_L_numbers_are, k_L_numbers_are, F_L_numbers_are.binds (ps := ["_law_numbers", "_law_most"]) (fun _ _ _ _ _ _ => elim2 (fun _ _ => rfl)), ok_L_numbers_are F_L_numbers_are T h_L_whole⟩
  have h_L_backs : Has l.prog w K mg base "_law_backs" ["_law_one_here", "_law_other", "_law_size"] 2 (sp_L_backs K) := ⟨_, _, PySem.W.mg_of X G a_L_backs, k_L_backs, F_L_backs.binds (ps := ["_law_one_here", "_law_other", "_law_size"]) (fun _ _ _ _ _ _ => elim3 (fun _ _ _ => rfl)), ok_L_backs F_L_backs T h_L_product h_L_one⟩
  have h_product : Has l.prog w K mg base "product" ["one", "other", "width"] 3 (sp_product K) := ⟨_, _, PySem.W.mg_of X G a_product, k_product, F_product.binds (ps := ["one", "other", "width"]) (fun _ _ _ _ _ _ => elim3 (fun _ _ _ => rfl)), ok_product F_product T h_list_times⟩
  have h_are_numbers : Has l.prog w K mg base "are_numbers" ["thing", "most"] 3 (sp_are_numbers K) := ⟨_, _, PySem.W.mg_of X G a_are_numbers, k_are_numbers, F_are_numbers.binds (ps := ["thing", "most"]) (fun _ _ _ _ _ _ => elim2 (fun _ _ => rfl)), ok_are_numbers F_are_numbers T h_each_divides_the_next h_is_list_of_wholes⟩
  have h_is_square : Has l.prog w K mg base "is_square" ["thing", "size"] 3 (sp_is_square K) := ⟨_, _, PySem.W.mg_of X G a_is_square, k_is_square, F_is_square.binds (ps := ["thing", "size"]) (fun _ _ _ _ _ _ => elim2 (fun _ _ => rfl)), ok_is_square F_is_square T h_is_list_of_wholes⟩
  have h_L_due_of : Has l.prog w K mg base "_law_due_of" ["_law_table", "_law_size", "_law_width", "_law_papers"] 3 (sp_L_due66 K) := ⟨_, _, PySem.W.mg_of X G a_L_due_of, k_L_due_of, F_L_due_of.binds (ps := ["_law_table", "_law_size", "_law_width", "_law_papers"]) (fun _ _ _ _ _ _ => elim4 (fun _ _ _ _ => rfl)), ok_L_due_of F_L_due_of T h_L_product h_L_numbers_are h_L_backs h_L_square_is⟩
  have h_are_turns : Has l.prog w K mg base "are_turns" ["one", "back", "size"] 4 (sp_are_turns K) := ⟨_, _, PySem.W.mg_of X G a_are_turns, k_are_turns, F_are_turns.binds (ps := ["one", "back", "size"]) (fun _ _ _ _ _ _ => elim3 (fun _ _ _ => rfl)), ok_are_turns F_are_turns T h_product h_ones h_is_square⟩
  have h_diagonal_holds : Has l.prog w K mg base "diagonal_holds" ["table", "width", "thing"] 5 (sp_diagonal_holds K) := ⟨_, _, PySem.W.mg_of X G a_diagonal_holds, k_diagonal_holds, F_diagonal_holds.binds (ps := ["table", "width", "thing"]) (fun _ _ _ _ _ _ => elim3 (fun _ _ _ => rfl)), ok_diagonal_holds F_diagonal_holds T h_product h_are_numbers h_are_turns h_straight_row⟩
  exact ok_law F_law T h_L_drawn h_L_spoilt h_L_due_of h_L_turned h_diagonal_holds
theorem walk {l : PySem.W.OpenLaw} {q : Program} {loose : List Str} {XP : (Str → Option Value) → Heap → Prop} {YP : World → Heap → Prop} {d : DefRec} {K : Params → PySem.W.Frag} (hn : l.most = some 63) (hdf : d.params.defaults = [])
    (hY : ∀ (w : World) (h : Heap), YP w h → (K w.params).In h)
    (F : ∀ (w : World) (mg : Str → Option Value) (fa : Addr) (h : Heap), (K w.params).In h → h.Ns mainGlobals mg → mg d.name = some (.ref fa) →
      ∃ fd : FuncData, (∀ (s : Shared) (u : Value), BindsTo s fd ⟨[u], []⟩ [("_law_script", u)]) ∧ ∀ base : Heap, (K w.params).In base → base.Ns mainGlobals mg → FnOk l.prog w (K w.params) mg base CX0 6 fa fd ["_law_script"] (sp_lawB (K w.params))) :
    PySem.W.WalkO q loose XP YP l.row.toRowW d [] (fun f vs => PySem.call f vs) :=
  L2.walk_ofB (n := 63) (k := 6) (x := "_law_script") (CX := fun _ => CX0) (sp := fun w => sp_lawB (K w.params)) hn (by decide) hdf ⟨rfl, by decide, by decide, rfl⟩ hY F (fun _ _ a ns hl hbit _ hS => ⟨a, ns, rfl, hS, hl, hbit, fun _ => rfl⟩) fun _ _ _ _ _ z => z
end Hb
open PySem PySem.W PyProof.Rows
set_option maxRecDepth 100000 in
set_option maxHeartbeats 0 in
theorem PySem.Challenge.cw_holebook_k66_a_diagonal_looked_at_holds : PySem.Challenge.rw_holebook_k66_a_diagonal_looked_at.Holds := by
  w_on; o_law; k_head; (case hw => w_witness2)
  k_fill
  refine Hb.walk (l := PySem.Challenge.rw_holebook_k66_a_diagonal_looked_at) rfl rfl (fun w h Y => PySem.W.kIn_of Y) ?F
  case F =>
    intro w mg fa h KX G hmg
    refine' Hb.all_mk KX G hmg ?a_is_whole ?l_is_whole ?c_is_whole ?k_is_whole ?a_one_row ?l_one_row ?c_one_row ?k_one_row ?a_mixed ?l_mixed ?c_mixed ?k_mixed ?a_number_at ?l_number_at ?c_number_at ?k_number_at ?a_is_multiple ?l_is_multiple ?c_is_multiple ?k_is_multiple ?a_L_whole ?l_L_whole ?c_L_whole ?k_L_whole ?a_L_cell_at ?l_L_cell_at ?c_L_cell_at ?k_L_cell_at ?a_L_product ?l_L_product ?c_L_product ?k_L_product ?a_L_one ?l_L_one ?c_L_one ?k_L_one ?a_L_added ?l_L_added ?c_L_added ?k_L_added ?a_L_columns_added ?l_L_columns_added ?c_L_columns_added ?k_L_columns_added ?a_L_other_number ?l_L_other_number ?c_L_other_number ?k_L_other_number ?a_L_odd ?l_L_odd ?c_L_odd ?k_L_odd ?a_is_list_of_wholes ?l_is_list_of_wholes ?c_is_list_of_wholes ?k_is_list_of_wholes ?a_ones ?l_ones ?c_ones ?k_ones ?a_list_times ?l_list_times ?c_list_times ?k_list_times ?a_each_divides_the_next ?l_each_divides_the_next ?c_each_divides_the_next ?k_each_divides_the_next ?a_straight_row ?l_straight_row ?c_straight_row ?k_straight_row ?a_L_square_is ?l_L_square_is ?c_L_square_is ?k_L_square_is ?a_L_drawn ?l_L_drawn ?c_L_drawn ?k_L_drawn ?a_L_turned ?l_L_turned ?c_L_turned ?k_L_turned ?a_L_spoilt ?l_L_spoilt ?c_L_spoilt ?k_L_spoilt ?a_L_numbers_are ?l_L_numbers_are ?c_L_numbers_are ?k_L_numbers_are ?a_L_backs ?l_L_backs ?c_L_backs ?k_L_backs ?a_product ?l_product ?c_product ?k_product ?a_are_numbers ?l_are_numbers ?c_are_numbers ?k_are_numbers ?a_is_square ?l_is_square ?c_is_square ?k_is_square ?a_L_due_of ?l_L_due_of ?c_L_due_of ?k_L_due_of ?a_are_turns ?l_are_turns ?c_are_turns ?k_are_turns ?a_diagonal_holds ?l_diagonal_holds ?c_diagonal_holds ?k_diagonal_holds ?a_law ?l_law ?c_law ?k_law ?z_isinstance ?z_int ?z_bool ?z_list ?z_all ?z_len ?z_range ?z_zip ?z_tuple ?z_min ?z_sum ?z_max
    (case a_is_whole => k_is); (case l_is_whole => k_is); (case c_is_whole => k_is); (case k_is_whole => k_is)
    (case a_one_row => k_is); (case l_one_row => k_is); (case c_one_row => k_is); (case k_one_row => k_is)
    (case a_mixed => k_is); (case l_mixed => k_is); (case c_mixed => k_is); (case k_mixed => k_is)
    (case a_number_at => k_is); (case l_number_at => k_is); (case c_number_at => k_is); (case k_number_at => k_is)
    (case a_is_multiple => k_is); (case l_is_multiple => k_is); (case c_is_multiple => k_is); (case k_is_multiple => k_is)
    (case a_L_whole => k_is); (case l_L_whole => k_is); (case c_L_whole => k_is); (case k_L_whole => k_is)
    (case a_L_cell_at => k_is); (case l_L_cell_at => k_is); (case c_L_cell_at => k_is); (case k_L_cell_at => k_is)
    (case a_L_product => k_is); (case l_L_product => k_is); (case c_L_product => k_is); (case k_L_product => k_is)
    (case a_L_one => k_is); (case l_L_one => k_is); (case c_L_one => k_is); (case k_L_one => k_is)
    (case a_L_added => k_is); (case l_L_added => k_is); (case c_L_added => k_is); (case k_L_added => k_is)
    (case a_L_columns_added => k_is); (case l_L_columns_added => k_is); (case c_L_columns_added => k_is); (case k_L_columns_added => k_is)
    (case a_L_other_number => k_is); (case l_L_other_number => k_is); (case c_L_other_number => k_is); (case k_L_other_number => k_is)
    (case a_L_odd => k_is); (case l_L_odd => k_is); (case c_L_odd => k_is); (case k_L_odd => k_is)
    (case a_is_list_of_wholes => k_is); (case l_is_list_of_wholes => k_is); (case c_is_list_of_wholes => k_is); (case k_is_list_of_wholes => k_is)
    (case a_ones => k_is); (case l_ones => k_is); (case c_ones => k_is); (case k_ones => k_is)
    (case a_list_times => k_is); (case l_list_times => k_is); (case c_list_times => k_is); (case k_list_times => k_is)
    (case a_each_divides_the_next => k_is); (case l_each_divides_the_next => k_is); (case c_each_divides_the_next => k_is); (case k_each_divides_the_next => k_is)
    (case a_straight_row => k_is); (case l_straight_row => k_is); (case c_straight_row => k_is); (case k_straight_row => k_is)
    (case a_L_square_is => k_is); (case l_L_square_is => k_is); (case c_L_square_is => k_is); (case k_L_square_is => k_is)
    (case a_L_drawn => k_is); (case l_L_drawn => k_is); (case c_L_drawn => k_is); (case k_L_drawn => k_is)
    (case a_L_turned => k_is); (case l_L_turned => k_is); (case c_L_turned => k_is); (case k_L_turned => k_is)
    (case a_L_spoilt => k_is); (case l_L_spoilt => k_is); (case c_L_spoilt => k_is); (case k_L_spoilt => k_is)
    (case a_L_numbers_are => k_is); (case l_L_numbers_are => k_is); (case c_L_numbers_are => k_is); (case k_L_numbers_are => k_is)
    (case a_L_backs => k_is); (case l_L_backs => k_is); (case c_L_backs => k_is); (case k_L_backs => k_is)
    (case a_product => k_is); (case l_product => k_is); (case c_product => k_is); (case k_product => k_is)
    (case a_are_numbers => k_is); (case l_are_numbers => k_is); (case c_are_numbers => k_is); (case k_are_numbers => k_is)
    (case a_is_square => k_is); (case l_is_square => k_is); (case c_is_square => k_is); (case k_is_square => k_is)
    (case a_L_due_of => k_is); (case l_L_due_of => k_is); (case c_L_due_of => k_is); (case k_L_due_of => k_is)
    (case a_are_turns => k_is); (case l_are_turns => k_is); (case c_are_turns => k_is); (case k_are_turns => k_is)
    (case a_diagonal_holds => k_is); (case l_diagonal_holds => k_is); (case c_diagonal_holds => k_is); (case k_diagonal_holds => k_is)
    (case a_law => k_is); (case l_law => k_is); (case c_law => k_is); (case k_law => k_is)
    (case z_isinstance => k_is); (case z_int => k_is); (case z_bool => k_is); (case z_list => k_is)
    (case z_all => k_is); (case z_len => k_is); (case z_range => k_is); (case z_zip => k_is)
    (case z_tuple => k_is); (case z_min => k_is); (case z_sum => k_is); (case z_max => k_is)
